/-
  BusAlone, as a Lean function; and of the program.
-/
import Derived.Test.YtlifkfemdknndaaKBusCfgM
import Derived.Test.YtlifkfemdknndaaKndDM
import Derived.Test.YtlifkfemdknndaaOpsXM
import Derived.Test.YtlifkfemdknndaaApSM
import Derived.Test.YtlifkfemdknndaaRspC
import Derived.Test.YtlifkfemdknndaaFam
import Derived.Test.YtlifkfemdknndaaImpA
/-
  busAsksCopy of the program: what one asks, in new memory.
-/
namespace Go.Proofs.Ytlifkfemdknndaa
open Go.RowKit
set_option linter.unusedSimpArgs false
set_option linter.unusedVariables false

set_option maxRecDepth 100000 in
set_option maxHeartbeats 4000000 in
theorem impl_busAsksCopy : ToC yReqReqS 39 := by
  rintro ⟨p, c, l⟩ w hr hs
  have hl1 : l.length ≤ c := hr.1
  have hl2 : c ≤ 9223372036854775807 := hr.2.1
  have hs' : l.length + (l.map yReqReq.size).sum ≤ 1048576 := hs
  have hl3 : l.length ≤ 1048576 := by omega
  have HR := Hid.intro hr
  have HSZ := Hid.intro hs'
  clear hr hs hs'
  obtain ⟨i0, hi, hz0, hz1, hz2⟩ := info_parts Try.infoReqReqS
  have hmk : ∀ W : World, (Instr.makeSlice 31 (.int .i64 (l.length : Int)) (.int .i64 (l.length : Int))).run Try.prog W =
      .ok (.slice (some ⟨W.heap.size, 0, none⟩) l.length l.length) (W.alloc (.cells (madeCells (Value.cells (.agg #[.int .i64 0, .int .i64 0, .int .i64 0, .int .i64 0, .bool false, .slice none 0 0, .slice none 0 0])) (l.length * 7)) 40)) := fun W => by
    have := run_make (P := Try.prog) W 31 40 i0 _ Try.underlying31 hi hz0 .i64 .i64 (l.length : Int) (l.length : Int) (by omega) (by omega) (by rw [hz2]; omega) (by omega)
    rw [hz1] at this
    simpa using this
  have HM0 : Hid (MakeSt yReqReq 40 l w.heap.size (w.alloc (.cells (madeCells (Value.cells (.agg #[.int .i64 0, .int .i64 0, .int .i64 0, .int .i64 0, .bool false, .slice none 0 0, .slice none 0 0])) (l.length * 7)) 40)) 0 []) := Hid.intro (MakeSt.start yReqReq_law (by rfl))
  have hbl0 : Below w.heap.size w (w.alloc (.cells (madeCells (Value.cells (.agg #[.int .i64 0, .int .i64 0, .int .i64 0, .int .i64 0, .bool false, .slice none 0 0, .slice none 0 0])) (l.length * 7)) 40)) := (Below.refl _ w).alloc (Nat.le_refl _) _
  have hsz0 : w.heap.size < (w.alloc (.cells (madeCells (Value.cells (.agg #[.int .i64 0, .int .i64 0, .int .i64 0, .int .i64 0, .bool false, .slice none 0 0, .slice none 0 0])) (l.length * 7)) 40)).heap.size := by simp
  show Calls Try.prog 39 #[.slice p l.length c] w _
  go_enter Try.func39, Try.ntmps39
  go_wp2
  clear hmk
  go_loopw [11] (fun i wr => ∃ (k : Nat) (zs : List (Int × Int × Int × Int × Bool × (Lst Int) × (Lst Int))), k ≤ l.length ∧ i = .int .i64 k ∧ Below w.heap.size w wr ∧ w.heap.size < wr.heap.size ∧ Hid (MakeSt yReqReq 40 l w.heap.size wr k zs)) (fun i _ => l.length - (intOf i).toNat)
  case atStart => exact ⟨0, [], Nat.zero_le _, rfl, hbl0, hsz0, HM0⟩
  case round =>
    clear HM0 hbl0 hsz0
    obtain ⟨k, zs, hk, rfl, hbl, hsz, HM⟩ := hrel
    by_cases hlt : k < l.length
    · have hp := yReqReqS_law.rd_blw HR.out hbl
      have hq := hp.2.2.2 _ (List.getElem_mem hlt)
      have hk0 : (0 : Int) ≤ (k : Int) := by omega
      have hk1 : (k : Int) < (l.length : Int) := by omega
      have hqs : yReqReq.size l[k] ≤ 1048576 := by have := size_le yReqReq hlt; have := HSZ.out; omega
      obtain ⟨q, hqe⟩ : ∃ q, q = l[k] := ⟨_, rfl⟩
      rw [← hqe] at hq hqs
      have hc : ∃ b off, p = some ⟨b, off, none⟩ ∧ b < wr.heap.size ∧ ∀ (j : Nat) (v : Value), (yReqReq.cells q)[j]? = some v → wr.cell? ⟨b, off + k * 7 + j, none⟩ = some v := by
        rcases hp.2.2.1 with h0 | ⟨b, off, e, hb, hc⟩
        · have h0 : l = [] := h0
          subst h0; simp at hlt
        · exact ⟨b, off, e, hb, fun j v hv => hc k hlt j v (by rw [← hqe]; exact hv)⟩
      obtain ⟨b, off, rfl, hb, hc⟩ := hc
      clear hp
      have HQE := Hid.intro hqe
      clear hqe
      obtain ⟨q_0, q_1, q_2, q_3, q_4, q_5, q_6⟩ := q
      have c0 : wr.cell? ⟨b, off + k * 7, none⟩ = some (.int .i64 q_0) := hc 0 _ rfl
      have c1 : wr.cell? ⟨b, off + k * 7 + 1, none⟩ = some (.int .i64 q_1) := hc 1 _ rfl
      have c2 : wr.cell? ⟨b, off + k * 7 + 2, none⟩ = some (.int .i64 q_2) := hc 2 _ rfl
      have c3 : wr.cell? ⟨b, off + k * 7 + 3, none⟩ = some (.int .i64 q_3) := hc 3 _ rfl
      have c4 : wr.cell? ⟨b, off + k * 7 + 4, none⟩ = some (.bool q_4) := hc 4 _ rfl
      have c5 : wr.cell? ⟨b, off + k * 7 + 5, none⟩ = some (.slice q_5.p q_5.l.length q_5.c) := hc 5 _ rfl
      have c6 : wr.cell? ⟨b, off + k * 7 + 6, none⟩ = some (.slice q_6.p q_6.l.length q_6.c) := hc 6 _ rfl
      have HQ := Hid.intro (And.intro hq hqs)
      clear hq hqs hc
      obtain ⟨_, _, _, _, _, g5, g6⟩ := HQ.out.1
      have hd5 := (yI_rd.1 (show yI.rd wr q_5 from g5)).2.2
      have hd6 := (yI_rd.1 (show yI.rd wr q_6 from g6)).2.2
      have hdl : q_5.l.length ≤ 2000000 ∧ q_6.l.length ≤ 2000000 := by
        have h1 : yReqReq.size (q_0, q_1, q_2, q_3, q_4, q_5, q_6) = 0 + (0 + (0 + (0 + (0 + (yI.size q_5 + yI.size q_6))))) := rfl
        have h2 := HQ.out.2
        rw [h1, yI_size, yI_size] at h2
        omega
      have gr0 : Below wr.heap.size wr (wr.alloc (.cells #[.int .i64 q_0, .int .i64 q_1, .int .i64 q_2, .int .i64 q_3, .bool q_4, .slice q_5.p q_5.l.length q_5.c, .slice q_6.p q_6.l.length q_6.c] 40)) := (Below.refl _ _).alloc (Nat.le_refl _) _
      have HDA := Hid.intro (And.intro (hd5.below gr0) hdl.1)
      have HDC := Hid.intro (And.intro hd6 hdl.2)
      clear hd5 hd6 hdl g5 g6
      have HG0 := Hid.intro gr0
      clear gr0
      have hne : w.heap.size ≠ wr.heap.size := by omega
      have hne' : wr.heap.size ≠ w.heap.size := by omega
      go_wp2_with (first | (at_builtin; refine wpList_copyN q_5.l rfl rfl rfl rfl HDA.out.1 HDA.out.2 ?_; intro p5 c5 w1 hF hg; have bJ : w1.heap[wr.heap.size]? = some (.cells #[.int .i64 q_0, .int .i64 q_1, .int .i64 q_2, .int .i64 q_3, .bool q_4, .slice q_5.p q_5.l.length q_5.c, .slice q_6.p q_6.l.length q_6.c] 40 (0, 0)) := (hg.block _ (by simp)).trans (nw_k _ rfl); have bJ1 : (w1.setCell ⟨wr.heap.size, 5, none⟩ (.slice p5 q_5.l.length c5)).heap[wr.heap.size]? = some (.cells #[.int .i64 q_0, .int .i64 q_1, .int .i64 q_2, .int .i64 q_3, .bool q_4, .slice p5 q_5.l.length c5, .slice q_6.p q_6.l.length q_6.c] 40 (0, 0)) := heap_set bJ 5 _; have j5f : w1.frozen? ⟨wr.heap.size, 5, none⟩ = false := heap_free bJ 5; have j5 : w1.cell? ⟨wr.heap.size, 5, none⟩ = some (.slice q_5.p q_5.l.length q_5.c) := heap_cell bJ 5; have j6 : w1.cell? ⟨wr.heap.size, 6, none⟩ = some (.slice q_6.p q_6.l.length q_6.c) := heap_cell bJ 6; have hb1 : Below wr.heap.size wr (w1.setCell ⟨wr.heap.size, 5, none⟩ (.slice p5 q_5.l.length c5)) := (HG0.out.trans (hg.mono (by simp))).setCell (p := ⟨wr.heap.size, 5, none⟩) (Nat.le_refl _) _; have HDB := Hid.intro (And.intro (HDC.out.1.below hb1) HDC.out.2); have HA := Hid.intro (And.intro hF (And.intro bJ1 hb1)); clear HDA hF hg bJ bJ1 hb1) | (at_builtin; refine wpList_copyN q_6.l rfl rfl rfl rfl HDB.out.1 HDB.out.2 ?_; intro p6 c6 w2 hF hg; have bJ : w2.heap[wr.heap.size]? = some (.cells #[.int .i64 q_0, .int .i64 q_1, .int .i64 q_2, .int .i64 q_3, .bool q_4, .slice p5 q_5.l.length c5, .slice q_6.p q_6.l.length q_6.c] 40 (0, 0)) := (hg.block _ (by have := heap_lt HA.out.2.1; exact this)).trans HA.out.2.1; have k0 : w2.cell? ⟨wr.heap.size, 0, none⟩ = some (.int .i64 q_0) := heap_cell bJ 0; have k1 : w2.cell? ⟨wr.heap.size, 1, none⟩ = some (.int .i64 q_1) := heap_cell bJ 1; have k2 : w2.cell? ⟨wr.heap.size, 2, none⟩ = some (.int .i64 q_2) := heap_cell bJ 2; have k3 : w2.cell? ⟨wr.heap.size, 3, none⟩ = some (.int .i64 q_3) := heap_cell bJ 3; have k4 : w2.cell? ⟨wr.heap.size, 4, none⟩ = some (.bool q_4) := heap_cell bJ 4; have k5 : w2.cell? ⟨wr.heap.size, 5, none⟩ = some (.slice p5 q_5.l.length c5) := heap_cell bJ 5; have k6 : w2.cell? ⟨wr.heap.size, 6, none⟩ = some (.slice q_6.p q_6.l.length q_6.c) := heap_cell bJ 6; have k6f : w2.frozen? ⟨wr.heap.size, 6, none⟩ = false := heap_free bJ 6; have hs1 : wr.heap.size ≤ (w1.setCell ⟨wr.heap.size, 5, none⟩ (.slice p5 q_5.l.length c5)).heap.size := HA.out.2.2.size; have hb2 : Below wr.heap.size wr w2 := HA.out.2.2.trans (hg.mono hs1); have hm2 := HM.out.below yReqReq_law hb2; obtain ⟨u0, t0⟩ := hm2.row.there (k * 7) (show _ < l.length * 7 by omega); have f0 := hm2.row.frz (k * 7); obtain ⟨u1, t1⟩ := hm2.row.there (k * 7 + 1) (show _ < l.length * 7 by omega); have f1 := hm2.row.frz (k * 7 + 1); obtain ⟨u2, t2⟩ := hm2.row.there (k * 7 + 2) (show _ < l.length * 7 by omega); have f2 := hm2.row.frz (k * 7 + 2); obtain ⟨u3, t3⟩ := hm2.row.there (k * 7 + 3) (show _ < l.length * 7 by omega); have f3 := hm2.row.frz (k * 7 + 3); obtain ⟨u4, t4⟩ := hm2.row.there (k * 7 + 4) (show _ < l.length * 7 by omega); have f4 := hm2.row.frz (k * 7 + 4); obtain ⟨u5, t5⟩ := hm2.row.there (k * 7 + 5) (show _ < l.length * 7 by omega); have f5 := hm2.row.frz (k * 7 + 5); obtain ⟨u6, t6⟩ := hm2.row.there (k * 7 + 6) (show _ < l.length * 7 by omega); have f6 := hm2.row.frz (k * 7 + 6); have HH := Hid.intro (And.intro hF (And.intro bJ (And.intro hb2 hg))); clear HDB hF hg bJ hb2 hm2 hs1 j5 j6 j5f))
      have hw2 : wr.heap.size < w2.heap.size := by have := heap_lt HH.out.2.1; omega
      have hJN : ∀ x, x ≠ wr.heap.size → (w2.setCell ⟨wr.heap.size, 6, none⟩ (.slice p6 q_6.l.length c6)).heap[x]? = w2.heap[x]? := fun x hx => heap_set_ne hx
      have hb2 : Below wr.heap.size wr (w2.setCell ⟨wr.heap.size, 6, none⟩ (.slice p6 q_6.l.length c6)) := HH.out.2.2.1.setCell (p := ⟨wr.heap.size, 6, none⟩) (Nat.le_refl _) _
      have hm2 := HM.out.below yReqReq_law hb2
      have hF5 : Fresh yI (wr.heap.size + 1) w1 ⟨p5, c5, q_5.l⟩ := HA.out.1.mono (by simp)
      have hF5' : Fresh yI (wr.heap.size + 1) (w1.setCell ⟨wr.heap.size, 5, none⟩ (.slice p5 q_5.l.length c5)) ⟨p5, c5, q_5.l⟩ := hF5.of yI_law (fun x hx => heap_set_ne (by have := hF5.ge x hx; omega))
      have hlt5 : ∀ x ∈ yI.foot ⟨p5, c5, q_5.l⟩, x < (w1.setCell ⟨wr.heap.size, 5, none⟩ (.slice p5 q_5.l.length c5)).heap.size := yI_law.ow_lt hF5'.ow
      have hF5b : Fresh yI (wr.heap.size + 1) (w2.setCell ⟨wr.heap.size, 6, none⟩ (.slice p6 q_6.l.length c6)) ⟨p5, c5, q_5.l⟩ := (hF5'.below yI_law HH.out.2.2.2).of yI_law (fun x hx => hJN x (by have := hF5'.ge x hx; omega))
      have hs1 : wr.heap.size + 1 ≤ (w1.setCell ⟨wr.heap.size, 5, none⟩ (.slice p5 q_5.l.length c5)).heap.size := heap_lt HA.out.2.1
      have hF6 : Fresh yI (w1.setCell ⟨wr.heap.size, 5, none⟩ (.slice p5 q_5.l.length c5)).heap.size (w2.setCell ⟨wr.heap.size, 6, none⟩ (.slice p6 q_6.l.length c6)) ⟨p6, c6, q_6.l⟩ := HH.out.1.of yI_law (fun x hx => hJN x (by have := HH.out.1.ge x hx; omega))
      have hf : Fresh yReqReq (wr.heap.size + 1) (w2.setCell ⟨wr.heap.size, 6, none⟩ (.slice p6 q_6.l.length c6)) (q_0, q_1, q_2, q_3, q_4, (⟨p5, c5, q_5.l⟩ : Lst Int), (⟨p6, c6, q_6.l⟩ : Lst Int)) := Fresh.recd (Fresh.pair (Fresh.int _ _ _) (Nat.le_refl _) (lt_int _ _) (Fresh.pair (Fresh.int _ _ _) (Nat.le_refl _) (lt_int _ _) (Fresh.pair (Fresh.int _ _ _) (Nat.le_refl _) (lt_int _ _) (Fresh.pair (Fresh.int _ _ _) (Nat.le_refl _) (lt_int _ _) (Fresh.pair (Fresh.bool _ _ _) (Nat.le_refl _) (fun x hx => by simp [gBool] at hx) (Fresh.pair hF5b hs1 hlt5 hF6))))))
      have hlt1 : ∀ b ∈ zs.flatMap yReqReq.foot, b < wr.heap.size + 1 := fun b hb => by have := HM.out.fr.lt yReqReq_law b hb; omega
      have HM2 := Hid.intro (hm2.step yReqReq_law (q := (q_0, q_1, q_2, q_3, q_4, (⟨p5, c5, q_5.l⟩ : Lst Int), (⟨p6, c6, q_6.l⟩ : Lst Int))) hlt (by rw [← HQE.out]; rfl) (by rw [← HQE.out]; rfl) hf hlt1 (by omega))
      have HB2 := Hid.intro (putC_below (Nat.le_refl _) (rowVs (k * yReqReq.sz) (yReqReq.cells (q_0, q_1, q_2, q_3, q_4, (⟨p5, c5, q_5.l⟩ : Lst Int), (⟨p6, c6, q_6.l⟩ : Lst Int)))) (hbl.trans (hb2.mono (by omega))))
      have hsz1 : w.heap.size < w2.heap.size := by omega
      go_roundw
      case rel => exact ⟨k + 1, zs ++ [(q_0, q_1, q_2, q_3, q_4, (⟨p5, c5, q_5.l⟩ : Lst Int), (⟨p6, c6, q_6.l⟩ : Lst Int))], by omega, by go_num, HB2.out, by simpa using hsz1, HM2.out⟩
      case measure => simp [intOf]; omega
    · have hd := HM.out.done (show k = l.length by omega) (by omega)
      have HD := Hid.intro hd
      clear hd HM
      go_wp2
      go_ret
      exact ⟨⟨some ⟨w.heap.size, 0, none⟩, l.length, zs⟩, by show _ = Ending.returned (Value.slice _ zs.length _); rw [HD.out.2.2.2]; rfl, HD.out.2.1, by show zs.length + (zs.map yReqReq.size).sum = l.length + (l.map yReqReq.size).sum; rw [HD.out.2.2.2, HD.out.2.2.1], HD.out.1, hbl⟩

end Go.Proofs.Ytlifkfemdknndaa

namespace Go.Proofs.Ytlifkfemdknndaa
open Go.RowKit
set_option linter.unusedSimpArgs false
set_option linter.unusedVariables false

/-- a bus on which one asks alone -/
def aloneB (z : ((List (Int × Int × Int × Bool)) × (List Int) × (List (List (Int × Int × Int × Int × Bool × (List Int) × (List Int)))))) (n : Nat) : ((List (Int × Int × Int × Bool)) × (List Int) × (List (List (Int × Int × Int × Int × Bool × (List Int) × (List Int))))) := (z.1, z.2.1, [0, 1, 2].map (fun k => if k = n then z.2.2.getD n [] else []))
def busAloneP (z : ((List (Int × Int × Int × Bool)) × (List Int) × (List (List (Int × Int × Int × Int × Bool × (List Int) × (List Int)))))) (who : Int) : ((List (Int × Int × Int × Bool)) × (List Int) × (List (List (Int × Int × Int × Int × Bool × (List Int) × (List Int))))) := if busOkP z && inB who 0 2 then aloneB z who.toNat else ([], [], [])

theorem rng_flat (w : World) (a : (Int × Int × Int × Bool)) : yMapRange.ow w a := ⟨trivial, trivial, trivial, trivial⟩
theorem rng_foot (a : (Int × Int × Int × Bool)) : yMapRange.foot a = [] := rfl
def kCpM (M : Nat) (ys : List (Int × Int × Int × Bool)) : World → Value → Prop := fun w v => ∃ p c, v = .slice p ys.length c ∧ Fresh yMapRangeS M w ⟨p, c, ys⟩
theorem kCpM_gr {M : Nat} {ys : List (Int × Int × Int × Bool)} {w w' : World} {v : Value} (hg : Gr w w') (h : kCpM M ys w v) : kCpM M ys w' v := by obtain ⟨p, c, e, h1⟩ := h; exact ⟨p, c, e, h1.below yMapRangeS_law hg⟩
def kBal (M : Nat) (ms : List (Int × Int × Int × Bool)) (ls : List Int) (G : Nat) : World → Value → Prop := fun w v => ∃ p c p' c', v = .agg #[.slice p ms.length c, .slice p' ls.length c', .slice (some ⟨G, 0, none⟩) 3 3] ∧ Fresh yMapRangeS M w ⟨p, c, ms⟩ ∧ Fresh yI M w ⟨p', c', ls⟩
theorem kBal_gr {M G : Nat} {ms : List (Int × Int × Int × Bool)} {ls : List Int} {w w' : World} {v : Value} (hg : Gr w w') (h : kBal M ms ls G w v) : kBal M ms ls G w' v := by obtain ⟨p, c, p', c', e, h1, h2⟩ := h; exact ⟨p, c, p', c', e, h1.below yMapRangeS_law hg, h2.below yI_law hg⟩

/-- three rows, of which one is told -/
def threeQ (n : Nat) (a : (Lst (Int × Int × Int × Int × Bool × (Lst Int) × (Lst Int)))) : List (Lst (Int × Int × Int × Int × Bool × (Lst Int) × (Lst Int))) := [0, 1, 2].map (fun k => if k = n then a else yReqReqS.zero)
def threeV (n : Nat) (v : Value) : Array Value := (#[.slice none 0 0, .slice none 0 0, .slice none 0 0] : Array Value).setIfInBounds n v
theorem three_cells (n : Nat) (a : (Lst (Int × Int × Int × Int × Bool × (Lst Int) × (Lst Int)))) : (threeV n (yReqReqS.val a)).toList = (threeQ n a).flatMap yReqReqS.cells := by
  by_cases h0 : n = 0
  · subst h0; rfl
  by_cases h1 : n = 1
  · subst h1; rfl
  by_cases h2 : n = 2
  · subst h2; rfl
  have e0 : ¬ (0 = n) := fun e => h0 e.symm
  have e1 : ¬ (1 = n) := fun e => h1 e.symm
  have e2 : ¬ (2 = n) := fun e => h2 e.symm
  have hge : ¬ n < 3 := by omega
  have hz : threeQ n a = [yReqReqS.zero, yReqReqS.zero, yReqReqS.zero] := by unfold threeQ; simp [e0, e1, e2]
  have hv : threeV n (yReqReqS.val a) = #[.slice none 0 0, .slice none 0 0, .slice none 0 0] := by unfold threeV; rw [Array.setIfInBounds_eq_of_size_le (by simp; omega)]
  rw [hz, hv]
  rfl
theorem three_len (n : Nat) (a : (Lst (Int × Int × Int × Int × Bool × (Lst Int) × (Lst Int)))) : (threeQ n a).length = 3 := rfl
theorem three_mem {n : Nat} {a x : (Lst (Int × Int × Int × Int × Bool × (Lst Int) × (Lst Int)))} (h : x ∈ threeQ n a) : x = a ∨ x = yReqReqS.zero := by
  obtain ⟨k, _, rfl⟩ := List.mem_map.1 h
  by_cases hk : k = n
  · left; simp [hk]
  · right; simp [hk]
theorem three_foot {n : Nat} (hn : n < 3) (a : (Lst (Int × Int × Int × Int × Bool × (Lst Int) × (Lst Int)))) : (threeQ n a).flatMap yReqReqS.foot = yReqReqS.foot a := by
  have hz : yReqReqS.foot yReqReqS.zero = [] := yReqReqS_law.zfoot
  match n, hn with
  | 0, _ => show yReqReqS.foot a ++ (yReqReqS.foot yReqReqS.zero ++ (yReqReqS.foot yReqReqS.zero ++ [])) = _; rw [hz]; simp
  | 1, _ => show yReqReqS.foot yReqReqS.zero ++ (yReqReqS.foot a ++ (yReqReqS.foot yReqReqS.zero ++ [])) = _; rw [hz]; simp
  | 2, _ => show yReqReqS.foot yReqReqS.zero ++ (yReqReqS.foot yReqReqS.zero ++ (yReqReqS.foot a ++ [])) = _; rw [hz]; simp
theorem three_pl (n : Nat) (a : (Lst (Int × Int × Int × Int × Bool × (Lst Int) × (Lst Int)))) : (threeQ n a).map yReqReqS.pl = [0, 1, 2].map (fun k => if k = n then yReqReqS.pl a else []) := by
  unfold threeQ
  rw [List.map_map]
  refine List.map_congr_left (fun k _ => ?_)
  simp only [Function.comp]
  split <;> rfl
theorem three_size {n : Nat} (hn : n < 3) (a : (Lst (Int × Int × Int × Int × Bool × (Lst Int) × (Lst Int)))) : ((threeQ n a).map yReqReqS.size).sum = yReqReqS.size a := by
  have hz : yReqReqS.size yReqReqS.zero = 0 := rfl
  match n, hn with
  | 0, _ => show yReqReqS.size a + (yReqReqS.size yReqReqS.zero + (yReqReqS.size yReqReqS.zero + 0)) = _; rw [hz]; simp
  | 1, _ => show yReqReqS.size yReqReqS.zero + (yReqReqS.size a + (yReqReqS.size yReqReqS.zero + 0)) = _; rw [hz]; simp
  | 2, _ => show yReqReqS.size yReqReqS.zero + (yReqReqS.size yReqReqS.zero + (yReqReqS.size a + 0)) = _; rw [hz]; simp
theorem make_progs (W : World) : (Instr.makeSlice 25 (.int .i64 3) (.int .i64 3)).run Try.prog W = .ok (.slice (some ⟨W.heap.size, 0, none⟩) 3 3) (W.alloc (.cells #[.slice none 0 0, .slice none 0 0, .slice none 0 0] 31)) := by
  obtain ⟨i0, hi, hz0, hz1, hz2⟩ := info_parts Try.infoReqReqSS
  have := run_make (P := Try.prog) W 25 31 i0 _ Try.underlying25 hi hz0 .i64 .i64 3 3 (by omega) (by omega) (by rw [hz2]; omega) (by omega)
  have e : madeCells (Value.cells (.slice none 0 0)) 3 = #[.slice none 0 0, .slice none 0 0, .slice none 0 0] := by kernel_rfl
  rw [hz1, show (Int.toNat 3) = 3 from rfl, show 3 * 1 = 3 from rfl, e] at this
  exact this
/-- a bus whose parts lie apart -/
theorem bal_fresh {M B : Nat} {w : World} {n G pc lc : Nat} {pm pl : Option Addr} {ms : List (Int × Int × Int × Bool)} {ls : List Int} {a : (Lst (Int × Int × Int × Int × Bool × (Lst Int) × (Lst Int)))} (hn : n < 3) (hG : w.heap[G]? = some (.cells (threeV n (yReqReqS.val a)) 31 (0, 0))) (hMG : M ≤ G) (hGB : G < B)
    (ha : Fresh yReqReqS M w a) (haB : ∀ b ∈ yReqReqS.foot a, b < B) (h1 : Fresh yMapRangeS B w ⟨pm, pc, ms⟩) (h2 : Fresh yI B w ⟨pl, lc, ls⟩) :
    Fresh yBusCfg M w (⟨pm, pc, ms⟩, ⟨pl, lc, ls⟩, ⟨some ⟨G, 0, none⟩, 3, threeQ n a⟩) := by
  have hsz : (threeV n (yReqReqS.val a)).size = 3 := by unfold threeV; simp
  have hO : ORow 31 1 w G 3 3 ((threeQ n a).flatMap yReqReqS.cells) := ⟨_, hG, hsz, Nat.le_refl _, by rw [← three_cells, Array.length_toList, hsz], by rw [← three_cells]; exact List.take_of_length_le (by rw [Array.length_toList, hsz]; omega)⟩
  have hblk : (gLst 31 yReqReqS).foot ⟨some ⟨G, 0, none⟩, 3, threeQ n a⟩ = G :: yReqReqS.foot a := by
    show blk (⟨some ⟨G, 0, none⟩, 3, threeQ n a⟩ : Lst (Lst (Int × Int × Int × Int × Bool × (Lst Int) × (Lst Int)))) ++ (threeQ n a).flatMap yReqReqS.foot = _
    rw [blk_of (a := ⟨some ⟨G, 0, none⟩, 3, threeQ n a⟩) (by intro e; have h3 := three_len n a; have e' : threeQ n a = [] := e; rw [e'] at h3; cases h3) rfl, three_foot hn]
    rfl
  have hf1 := foot_flat rng_foot 70 ⟨pm, pc, ms⟩
  have hf2 := yI_foot ⟨pl, lc, ls⟩
  have hGa : G ∉ yReqReqS.foot a := fun hm => by
    obtain ⟨cur, E, hE, hb⟩ := yReqReqS_law.ow_ty ha.ow G hm
    rw [hG] at hb
    injection hb with hb
    injection hb with _ hb
    subst hb
    exact absurd hE (by decide)
  have h12 : ∀ x ∈ yMapRangeS.foot ⟨pm, pc, ms⟩, x ∉ yI.foot ⟨pl, lc, ls⟩ := fun x hx hy => by
    obtain ⟨c1, E1, hE1, hb1⟩ := yMapRangeS_law.ow_ty h1.ow x hx
    obtain ⟨c2, E2, hE2, hb2⟩ := yI_law.ow_ty h2.ow x hy
    rw [hb1] at hb2
    injection hb2 with hb2
    injection hb2 with _ hb2
    subst hb2
    revert hE1 hE2
    have e1 : yMapRangeS.tys = [70] := rfl
    have e2 : yI.tys = [3] := rfl
    rw [e1, e2]
    intro hE1 hE2
    simp at hE1 hE2
    rw [hE1] at hE2
    exact absurd hE2 (by decide)
  have h3 : ∀ x ∈ G :: yReqReqS.foot a, x < B := fun x hx => by
    rcases List.mem_cons.1 hx with rfl | hx
    · exact hGB
    · exact haB x hx
  refine ⟨⟨h1.ow, h2.ow, ⟨Nat.le_refl _, by show 3 ≤ 9223372036854775807; omega, .inr ⟨G, rfl, hO⟩, fun x hx => ?_⟩⟩, ?_, ?_⟩
  · rcases three_mem hx with rfl | rfl
    · exact ha.ow
    · exact yReqReqS_law.zow w
  · show (yMapRangeS.foot _ ++ (yI.foot _ ++ (gLst 31 yReqReqS).foot _)).Nodup
    rw [hblk]
    refine List.nodup_append.2 ⟨h1.nd, List.nodup_append.2 ⟨h2.nd, List.nodup_cons.2 ⟨hGa, ha.nd⟩, fun x hx y hy e => ?_⟩, fun x hx y hy e => ?_⟩
    · subst e; have := h2.ge x hx; have := h3 x hy; omega
    · subst e
      rcases List.mem_append.1 hy with hy | hy
      · exact h12 x hx hy
      · have := h1.ge x hx; have := h3 x hy; omega
  · show ∀ x ∈ yMapRangeS.foot _ ++ (yI.foot _ ++ (gLst 31 yReqReqS).foot _), M ≤ x
    rw [hblk]
    intro x hx
    rcases List.mem_append.1 hx with hx | hx
    · have := h1.ge x hx; omega
    rcases List.mem_append.1 hx with hx | hx
    · have := h2.ge x hx; omega
    rcases List.mem_cons.1 hx with rfl | hx
    · exact hMG
    · exact ha.ge x hx

set_option maxRecDepth 100000 in
set_option maxHeartbeats 8000000 in
theorem impl_BusAlone (HI : ReqOkC) (c : ((Lst (Int × Int × Int × Bool)) × (Lst Int) × (Lst (Lst (Int × Int × Int × Int × Bool × (Lst Int) × (Lst Int)))))) (who : Int) (w : World) (h : yBusCfg.rd w c) (hs : yBusCfg.size c ≤ 1048576) :
    Calls Try.prog 12 #[yBusCfg.val c, .int .i64 who] w fun e w' => ∃ a', e = .returned (yBusCfg.val a') ∧ yBusCfg.pl a' = busAloneP (yBusCfg.pl c) who ∧ yBusCfg.size a' ≤ 1048576 ∧ Fresh yBusCfg w.heap.size w' a' ∧ Below w.heap.size w w' := by
  obtain ⟨m, la, ps⟩ := c
  have hs' : yMapRangeS.size m + (yI.size la + yReqReqSS.size ps) ≤ 1048576 := hs
  have hm2 : m.l.length ≤ 2000000 := by
    have : yMapRangeS.size m = m.l.length + (m.l.map yMapRange.size).sum := rfl
    omega
  have hl2 : la.l.length ≤ 2000000 := by have := yI_size la; omega
  have HSZ := Hid.intro (And.intro hs' (And.intro hm2 hl2))
  have hbl : ∀ o o', Below w.heap.size w ((w.alloc o).alloc o') := fun o o' => ((Below.refl _ w).alloc (Nat.le_refl _) o).alloc (by simp) o'
  have HR := Hid.intro h
  obtain ⟨z, hz⟩ : ∃ z, z = yBusCfg.pl (m, la, ps) := ⟨_, rfl⟩
  have HBO : Hid (∀ W, Below w.heap.size w W → Calls Try.prog 8 #[.agg #[.slice m.p m.l.length m.c, .slice la.p la.l.length la.c, .slice ps.p ps.l.length ps.c]] W fun e w' => e = .returned (.bool (busOkP z)) ∧ Below W.heap.size W w') := Hid.intro (fun W hW => by rw [hz]; exact impl_BusOk HI (m, la, ps) W (yBusCfg_law.rd_blw h hW))
  have HZ := Hid.intro hz
  rw [← hz]
  clear h hz hs hs' hm2 hl2 HI
  show Calls Try.prog 12 #[.agg #[.slice m.p m.l.length m.c, .slice la.p la.l.length la.c, .slice ps.p ps.l.length ps.c], .int .i64 who] w _
  go_enter Try.func12, Try.ntmps12
  go_wp2_with fail
  refine (HBO.out _ (hbl _ _)).mono ?_
  rintro e w1 ⟨rfl, hb⟩
  have bel : Below w.heap.size w w1 := (hbl _ _).trans (hb.mono (hbl _ _).size)
  have bA : w1.heap[w.heap.size]? = some (.cells #[.slice m.p m.l.length m.c, .slice la.p la.l.length la.c, .slice ps.p ps.l.length ps.c] 27 (0, 0)) := (hb.block _ (by simp <;> omega)).trans ((Below.heap_alloc _ _ _ (by simp)).trans (nw_k _ rfl))
  have bR : w1.heap[w.heap.size + 1]? = some (.cells #[.slice none 0 0, .slice none 0 0, .slice none 0 0] 27 (0, 0)) := (hb.block _ (by simp)).trans (nw_k _ (by simp))
  clear hb HBO hbl
  have EMP : ∀ W : World, Below w.heap.size w W → busAloneP z who = ([], [], []) → ∃ a', (Ending.returned (.agg #[.slice none 0 0, .slice none 0 0, .slice none 0 0]) : Ending) = .returned (yBusCfg.val a') ∧ yBusCfg.pl a' = busAloneP z who ∧ yBusCfg.size a' ≤ 1048576 ∧ Fresh yBusCfg w.heap.size W a' ∧ Below w.heap.size w W := fun W hW e =>
    ⟨yBusCfg.zero, rfl, by rw [e]; rfl, Nat.zero_le _, ⟨yBusCfg_law.zow W, by rw [yBusCfg_law.zfoot]; exact List.nodup_nil, fun b hb => by rw [yBusCfg_law.zfoot] at hb; simp at hb⟩, hW⟩
  have HEM := Hid.intro EMP
  clear EMP
  have r0 : w1.cell? ⟨w.heap.size + 1, 0, none⟩ = some (.slice none 0 0) := heap_cell bR 0
  have r1 : w1.cell? ⟨w.heap.size + 1, 1, none⟩ = some (.slice none 0 0) := heap_cell bR 1
  have r2 : w1.cell? ⟨w.heap.size + 1, 2, none⟩ = some (.slice none 0 0) := heap_cell bR 2
  have g0 : w1.frozen? ⟨w.heap.size + 1, 0, none⟩ = false := heap_free bR 0
  have g1 : w1.frozen? ⟨w.heap.size + 1, 1, none⟩ = false := heap_free bR 1
  have g2 : w1.frozen? ⟨w.heap.size + 1, 2, none⟩ = false := heap_free bR 2
  have hzf := heap_set (heap_set (heap_set bR 0 (.slice none 0 0)) 1 (.slice none 0 0)) 2 (.slice none 0 0)
  have s0 := heap_cell hzf 0
  have s1 := heap_cell hzf 1
  have s2 := heap_cell hzf 2
  simp at s0 s1 s2
  have HBZ : Hid (Below w.heap.size w (((w1.setCell ⟨w.heap.size + 1, 0, none⟩ (.slice none 0 0)).setCell ⟨w.heap.size + 1, 1, none⟩ (.slice none 0 0)).setCell ⟨w.heap.size + 1, 2, none⟩ (.slice none 0 0))) := Hid.intro (((bel.setCell (p := ⟨w.heap.size + 1, 0, none⟩) (by simp) _).setCell (p := ⟨w.heap.size + 1, 1, none⟩) (by simp) _).setCell (p := ⟨w.heap.size + 1, 2, none⟩) (by simp) _)
  have HBEL := Hid.intro bel
  clear hzf bel
  cases hok : busOkP z
  · have HE : Hid (busAloneP z who = ([], [], [])) := Hid.intro (by unfold busAloneP; rw [hok]; rfl)
    clear bA bR
    go_wp2
    refine bodyPost_ret (v := .agg #[.slice none 0 0, .slice none 0 0, .slice none 0 0]) (by simp [results, Try.results12, go_sem, s0, s1, s2]) rfl (HEM.out _ HBZ.out HE.out)
  cases hin : inB who 0 2
  · have HE : Hid (busAloneP z who = ([], [], [])) := Hid.intro (by unfold busAloneP; rw [hok, hin]; rfl)
    clear bA bR
    go_wp2_with (go_at_call 38; refine (whoOk_any _ _).mono ?_; rintro e w' ⟨rfl, hw⟩; replace hw := hw.symm; subst hw)
    all_goals refine bodyPost_ret (v := .agg #[.slice none 0 0, .slice none 0 0, .slice none 0 0]) (by simp [results, Try.results12, go_sem, s0, s1, s2]) rfl (HEM.out _ HBZ.out HE.out)
  have hwho : 0 ≤ who ∧ who ≤ 2 := by simpa [inB] using hin
  obtain ⟨n, rfl⟩ : ∃ n : Nat, who = (n : Int) := ⟨who.toNat, by omega⟩
  have HE : Hid (busAloneP z (n : Int) = aloneB z n) := Hid.intro (by unfold busAloneP; rw [hok, hin]; rfl)
  have hn3 : n < 3 := by omega
  have hps3 : ps.l.length = 3 := by
    have h1 := progs_three hok
    rw [HZ.out] at h1
    have h2 : (yBusCfg.pl (m, la, ps)).2.2.length = ps.l.length := List.length_map ..
    omega
  obtain ⟨bs, os, hp⟩ : ∃ bs os, ps.p = some ⟨bs, os, none⟩ := by
    obtain ⟨b, off, e, _⟩ := progs_at (yBusCfg_law.rd_blw HR.out HBEL.out).2.2 (k := 0) (by show 0 < ps.l.length; omega)
    exact ⟨b, off, e⟩
  obtain ⟨psp, psc, psl⟩ := ps
  simp only at hp hps3 bA ⊢
  subst hp
  have hnl : n < psl.length := by omega
  have hnI : (n : Int) < (psl.length : Int) := by omega
  have hn0 : (0 : Int) ≤ (n : Int) := by omega
  have hn33 : (n : Int) < 3 := by omega
  have HPN : Hid (aloneB z n = (yMapRangeS.pl m, yI.pl la, [0, 1, 2].map (fun k => if k = n then yReqReqS.pl psl[n] else []))) := Hid.intro (by
    unfold aloneB
    have e1 : z.1 = yMapRangeS.pl m := by rw [HZ.out]; rfl
    have e3 : z.2.1 = yI.pl la := by rw [HZ.out]; rfl
    have e2 : z.2.2.getD n [] = yReqReqS.pl psl[n] := by
      have : z.2.2 = psl.map yReqReqS.pl := by rw [HZ.out]; rfl
      rw [this, List.getD_eq_getElem?_getD, List.getElem?_map, List.getElem?_eq_getElem hnl]
      rfl
    rw [e1, e2, e3])
  have hsn : yReqReqS.size psl[n] ≤ 1048576 := by
    have h1 := size_le yReqReqS hnl
    have h2 : yReqReqSS.size ⟨some ⟨bs, os, none⟩, psc, psl⟩ = psl.length + (psl.map yReqReqS.size).sum := rfl
    have h3 := HSZ.out.1
    rw [h2] at h3
    omega
  have HSN : Hid (yMapRangeS.size m + (yI.size la + (3 + yReqReqS.size psl[n])) ≤ 1048576) := Hid.intro (by
    have h1 := size_le yReqReqS hnl
    have h2 : yReqReqSS.size ⟨some ⟨bs, os, none⟩, psc, psl⟩ = psl.length + (psl.map yReqReqS.size).sum := rfl
    have h3 := HSZ.out.1
    rw [h2] at h3
    omega)
  have HKN : Hid (∀ W, Below w.heap.size w W → bs < W.heap.size ∧ W.cell? ⟨bs, os + n, none⟩ = some (.slice psl[n].p psl[n].l.length psl[n].c) ∧ yReqReqS.rd W psl[n]) := Hid.intro (fun W hW => row_of (yBusCfg_law.rd_blw HR.out hW).2.2 rfl hnl)
  have HMR : Hid (∀ W, Below w.heap.size w W → yMapRangeS.rd W m ∧ yI.rd W la) := Hid.intro (fun W hW => ⟨(yBusCfg_law.rd_blw HR.out hW).1, (yBusCfg_law.rd_blw HR.out hW).2.1⟩)
  generalize psl[n] = q at HPN hsn HSN HKN
  have hkn := HKN.out w1 HBEL.out
  have hbs := hkn.1
  have cN : w1.cell? ⟨bs, os + n, none⟩ = some (.slice q.p q.l.length q.c) := hkn.2.1
  have cA0 : w1.cell? ⟨w.heap.size, 2, none⟩ = some (.slice (some ⟨bs, os, none⟩) psl.length psc) := heap_cell bA 2
  have hlR := heap_lt bR
  have hm := make_progs w1
  have hg1 : Below w1.heap.size w1 (w1.alloc (.cells #[.slice none 0 0, .slice none 0 0, .slice none 0 0] 31)) := (Below.refl _ _).alloc (Nat.le_refl _) _
  have HCP : Hid (Calls Try.prog 39 #[.slice q.p q.l.length q.c] (w1.alloc (.cells #[.slice none 0 0, .slice none 0 0, .slice none 0 0] 31)) fun e w' => ∃ a : (Lst (Int × Int × Int × Int × Bool × (Lst Int) × (Lst Int))), e = .returned (.slice a.p a.l.length a.c) ∧ yReqReqS.pl a = yReqReqS.pl q ∧ yReqReqS.size a = yReqReqS.size q ∧ Fresh yReqReqS (w1.alloc (.cells #[.slice none 0 0, .slice none 0 0, .slice none 0 0] 31)).heap.size w' a ∧ Below (w1.alloc (.cells #[.slice none 0 0, .slice none 0 0, .slice none 0 0] 31)).heap.size (w1.alloc (.cells #[.slice none 0 0, .slice none 0 0, .slice none 0 0] 31)) w') := Hid.intro (impl_busAsksCopy q _ (yReqReqS_law.rd_blw hkn.2.2 hg1) hsn)
  have HG1 := Hid.intro hg1
  have HBA := Hid.intro bA
  have HBR := Hid.intro bR
  have hAG : w.heap.size < w1.heap.size := by omega
  clear hkn hg1 bA bR hps3 hsn s0 s1 s2 r0 r1 r2 g0 g1 g2 hwho hnl HEM HBZ
  have hGne : bs ≠ w1.heap.size := by omega
  go_wp2_with (first | (go_at_call 38; refine (whoOk_any _ _).mono ?_; rintro e w' ⟨rfl, hw⟩; replace hw := hw.symm; subst hw) | fail)
  refine HCP.out.mono ?_
  rintro e w2 ⟨a, rfl, hpa, hsa, hfa, hb⟩
  have hs1 := HG1.out.size
  have hb2 : Below w1.heap.size w1 w2 := HG1.out.trans (hb.mono HG1.out.size)
  have hGb : w2.heap[w1.heap.size]? = some (.cells #[.slice none 0 0, .slice none 0 0, .slice none 0 0] 31 (0, 0)) := (hb.block _ (by simp)).trans (nw_k _ rfl)
  have cG : w2.cell? ⟨w1.heap.size, n, none⟩ = some (.slice none 0 0) := by
    rw [heap_cell hGb]
    match n, hn3 with
    | 0, _ => rfl
    | 1, _ => rfl
    | 2, _ => rfl
  have fG : w2.frozen? ⟨w1.heap.size, n, none⟩ = false := heap_free hGb n
  obtain ⟨G, hGe⟩ : ∃ G, G = w1.heap.size := ⟨_, rfl⟩
  have HF2 := Hid.intro hfa
  have hA2 : w2.heap[w.heap.size]? = some (.cells #[.slice m.p m.l.length m.c, .slice la.p la.l.length la.c, .slice (some ⟨bs, os, none⟩) psl.length psc] 27 (0, 0)) := (hb2.block _ hAG).trans HBA.out
  have hR2 : w2.heap[w.heap.size + 1]? = some (.cells #[.slice none 0 0, .slice none 0 0, .slice none 0 0] 27 (0, 0)) := (hb2.block _ hlR).trans HBR.out
  obtain ⟨W0, hW0⟩ : ∃ W0, w2.setCell ⟨w1.heap.size, n, none⟩ (.slice a.p a.l.length a.c) = W0 := ⟨_, rfl⟩
  have hG0 : W0.heap[G]? = some (.cells (threeV n (yReqReqS.val a)) 31 (0, 0)) := by rw [← hW0, hGe]; exact heap_set hGb n _
  have hA0 : W0.heap[w.heap.size]? = some (.cells #[.slice m.p m.l.length m.c, .slice la.p la.l.length la.c, .slice (some ⟨bs, os, none⟩) psl.length psc] 27 (0, 0)) := by rw [← hW0]; exact (heap_set_ne (by omega)).trans hA2
  have hR0 : W0.heap[w.heap.size + 1]? = some (.cells #[.slice none 0 0, .slice none 0 0, .slice none 0 0] 27 (0, 0)) := by rw [← hW0]; exact (heap_set_ne (by omega)).trans hR2
  have hBW : Below w.heap.size w W0 := by rw [← hW0]; exact (HBEL.out.trans (hb2.mono HBEL.out.size)).setCell (p := ⟨w1.heap.size, n, none⟩) (by show w.heap.size ≤ w1.heap.size; omega) _
  have hfa0 : Fresh yReqReqS w.heap.size W0 a := by
    have hge := hfa.ge
    simp only [World.size_alloc] at hge
    rw [← hW0]
    exact (hfa.mono (by simp; omega)).of yReqReqS_law (fun x hx => heap_set_ne (by have := hge x hx; omega))
  have hsG : G < W0.heap.size := heap_lt hG0
  have hwG : w.heap.size ≤ G := by omega
  have hRG : w.heap.size + 1 < W0.heap.size := heap_lt hR0
  have HF0 := Hid.intro hfa0
  have HG0 := Hid.intro hG0
  have HA0 := Hid.intro hA0
  have HR0 := Hid.intro hR0
  have HBW := Hid.intro hBW
  have HPA := Hid.intro (And.intro hpa hsa)
  rw [← hGe] at cG fG hW0 ⊢
  clear hGe
  clear hfa hb hb2 hGb hA2 hR2 hG0 hA0 hR0 hBW hfa0 hpa hsa HF2 HCP
  go_wp2_with fail
  try rw [hW0]
  clear hW0 cG fG
  refine wp_region_then (by kernel_rfl) Gr (fun _ W => Below W0.heap.size W0 W)
    (tab [(25, kIs (.pointer (some ⟨w.heap.size, 0, none⟩))), (26, kIs (.slice m.p m.l.length m.c)), (27, kCpM W0.heap.size m.l), (28, kIs (.pointer (some ⟨w.heap.size, 1, none⟩))), (29, kIs (.slice la.p la.l.length la.c)), (30, kCpI W0.heap.size la.l), (31, kIs (.slice (some ⟨G, 0, none⟩) 3 3)), (32, kBal W0.heap.size m.l la.l G)])
    8 _ [25, 26, 27, 28, 29, 30, 31, 32] rfl rfl (by kernel_rfl) (by kernel_rfl) rfl (by kernel_rfl) ?_ ?_ ?_ ?_
  · refine tabR_stable ?_
    intro x hx
    simp only [List.mem_cons, List.not_mem_nil, or_false] at hx
    rcases hx with rfl | rfl | rfl | rfl | rfl | rfl | rfl | rfl
    all_goals intro w w' v hr hv
    all_goals first | exact hv | exact kCpM_gr hr hv | exact kCpI_gr hr hv | exact kBal_gr hr hv
  · exact (Below.refl _ _).drew
  · have fa : ∀ (W : World), Below W0.heap.size W0 W → W.cell? ⟨w.heap.size, 0, none⟩ = some (.slice m.p m.l.length m.c) ∧ W.cell? ⟨w.heap.size, 1, none⟩ = some (.slice la.p la.l.length la.c) := fun W hW => by
      have hx := (hW.block w.heap.size (heap_lt HA0.out)).trans HA0.out
      exact ⟨heap_cell hx 0, heap_cell hx 1⟩
    refine ops_cons (gd rfl <| tx_pure rfl rfl (fun _ _ h => h) Gr.refl (fun i ρ W hat hW => ?_)) ?_
    · have e2 := hat.out 2 (by kernel_rfl)
      simp [Act.eval] at e2
      simp only [execOp, e2]; go_simp
    refine ops_cons (gd rfl <| tx_pure rfl rfl (fun _ _ h => h) Gr.refl (fun i ρ W hat hW => ?_)) ?_
    · have e2 : ρ (.tmp 25) = _ := hat.dep 25 (by kernel_rfl)
      have c0 := (fa W hW).1
      simp only [execOp, e2]; go_simp
    refine ops_cons (gd rfl <| tx_val rfl (fun i ρ W _ hat hW => ?_)) ?_
    · have e2 : ρ (.tmp 26) = _ := hat.dep 26 (by kernel_rfl)
      obtain ⟨i0, hi, hz0, hz1, hz2⟩ := info_parts Try.infoMapRangeS
      refine tv_copyK (E := 70) (p0 := none) (z := .agg #[.int .i64 0, .int .i64 0, .int .i64 0, .bool false]) yMapRange_law rng_flat rng_foot Try.underlying23 hi hz0 hz1 hz2 rfl (by decide) (S := .const (.slice none 0 0)) (X := .tmp 26) rfl (hat.con _) (.inl rfl) e2 (HMR.out W (HBW.out.trans (hW.mono HBW.out.size))).1 HSZ.out.2.1 (fun p' c' W' h1 h2 => ?_)
      exact ⟨hW.trans (h2.mono hW.size), h2, ⟨p', c', rfl, h1.2 _ hW.size⟩⟩
    refine ops_cons (gd rfl <| tx_pure rfl rfl (fun _ _ h => h) Gr.refl (fun i ρ W hat hW => ?_)) ?_
    · have e2 := hat.out 2 (by kernel_rfl)
      simp [Act.eval] at e2
      simp only [execOp, e2]; go_simp
    refine ops_cons (gd rfl <| tx_pure rfl rfl (fun _ _ h => h) Gr.refl (fun i ρ W hat hW => ?_)) ?_
    · have e2 : ρ (.tmp 28) = _ := hat.dep 28 (by kernel_rfl)
      have c0 := (fa W hW).2
      simp only [execOp, e2]; go_simp
    refine ops_cons (gd rfl <| tx_val rfl (fun i ρ W _ hat hW => ?_)) ?_
    · have e2 : ρ (.tmp 29) = _ := hat.dep 29 (by kernel_rfl)
      refine tv_copyI (p0 := none) (S := .const (.slice none 0 0)) (X := .tmp 29) rfl (hat.con _) (.inl rfl) e2 (yI_rd.1 (HMR.out W (HBW.out.trans (hW.mono HBW.out.size))).2).2.2 HSZ.out.2.2 (fun p' c' W' h1 h2 => ?_)
      exact ⟨hW.trans (h2.mono hW.size), h2, ⟨p', c', rfl, h1.2 _ hW.size⟩⟩
    refine ops_cons (gd rfl <| tx_pure rfl rfl (fun _ _ h => h) Gr.refl (fun i ρ W hat hW => ?_)) ?_
    · have e2 := hat.out 5 (by kernel_rfl)
      simp [Act.eval] at e2
      simp only [execOp, e2]; go_simp
    refine ops_cons (gd rfl <| tx_val rfl (fun i ρ W _ hat hW => ?_)) ?_
    · obtain ⟨p1, c1, e1, h1⟩ : kCpM W0.heap.size m.l W (ρ (.tmp 27)) := hat.dep 27 (by kernel_rfl)
      obtain ⟨p2, c2, e2, h2⟩ : kCpI W0.heap.size la.l W (ρ (.tmp 30)) := hat.dep 30 (by kernel_rfl)
      have e3 : ρ (.tmp 31) = _ := hat.dep 31 (by kernel_rfl)
      exact ⟨.agg #[.slice p1 m.l.length c1, .slice p2 la.l.length c2, .slice (some ⟨G, 0, none⟩) 3 3], W, by simp only [execOp, e1, e2, e3]; go_simp, hW, Gr.refl _, ⟨p1, c1, p2, c2, rfl, h1, h2⟩⟩
    exact ops_nil
  · intro f W hW hf
    obtain ⟨p1, c1, p2, c2, e32, h1, h2⟩ : kBal W0.heap.size m.l la.l G W (f 32) := hf 32 (by simp)
    clear hf
    have bR' := (hW.block (w.heap.size + 1) hRG).trans HR0.out
    have r0 : W.cell? ⟨w.heap.size + 1, 0, none⟩ = some (.slice none 0 0) := heap_cell bR' 0
    have r1 : W.cell? ⟨w.heap.size + 1, 1, none⟩ = some (.slice none 0 0) := heap_cell bR' 1
    have r2 : W.cell? ⟨w.heap.size + 1, 2, none⟩ = some (.slice none 0 0) := heap_cell bR' 2
    have g0 : W.frozen? ⟨w.heap.size + 1, 0, none⟩ = false := heap_free bR' 0
    have g1 : W.frozen? ⟨w.heap.size + 1, 1, none⟩ = false := heap_free bR' 1
    have g2 : W.frozen? ⟨w.heap.size + 1, 2, none⟩ = false := heap_free bR' 2
    have hf := heap_set (heap_set (heap_set bR' 0 (.slice p1 m.l.length c1)) 1 (.slice p2 la.l.length c2)) 2 (.slice (some ⟨G, 0, none⟩) 3 3)
    have s0 := heap_cell hf 0
    have s1 := heap_cell hf 1
    have s2 := heap_cell hf 2
    simp at s0 s1 s2
    have hGR : G ≠ w.heap.size + 1 := fun e => by
      have h1 := HG0.out
      rw [e] at h1
      rw [HR0.out] at h1
      injection h1 with h1
      injection h1 with _ h1
      exact absurd h1 (by decide)
    have hne : ∀ x, x ≠ w.heap.size + 1 → (((W.setCell ⟨w.heap.size + 1, 0, none⟩ (.slice p1 m.l.length c1)).setCell ⟨w.heap.size + 1, 1, none⟩ (.slice p2 la.l.length c2)).setCell ⟨w.heap.size + 1, 2, none⟩ (.slice (some ⟨G, 0, none⟩) 3 3)).heap[x]? = W.heap[x]? := fun x hx => (heap_set_ne hx).trans ((heap_set_ne hx).trans (heap_set_ne hx))
    have hty : ∀ {W' : World} {x : Nat}, (∃ (cur : Array Value) (E : Nat), E ≠ 27 ∧ W'.heap[x]? = some (.cells cur E (0, 0))) → W'.heap[w.heap.size + 1]? = W0.heap[w.heap.size + 1]? → x ≠ w.heap.size + 1 := fun {W' x} hx hw e => by
      obtain ⟨cur, E, hE, hb⟩ := hx
      rw [e, hw, HR0.out] at hb
      injection hb with hb
      injection hb with _ hb
      exact hE hb.symm
    have hRW := hW.block (w.heap.size + 1) hRG
    have ha1 := HF0.out.below yReqReqS_law hW
    have hfa : ∀ x ∈ yReqReqS.foot a, x ≠ w.heap.size + 1 := fun x hx => hty (by
      obtain ⟨cur, E, hE, hb⟩ := yReqReqS_law.ow_ty ha1.ow x hx
      exact ⟨cur, E, fun e => by subst e; exact absurd hE (by decide), hb⟩) hRW
    have hfm : ∀ x ∈ yMapRangeS.foot ⟨p1, c1, m.l⟩, x ≠ w.heap.size + 1 := fun x hx e => by have := h1.ge x hx; omega
    have hfl : ∀ x ∈ yI.foot ⟨p2, c2, la.l⟩, x ≠ w.heap.size + 1 := fun x hx e => by have := h2.ge x hx; omega
    have HFR := Hid.intro (bal_fresh (B := W0.heap.size) hn3 ((hne G hGR).trans ((hW.block G hsG).trans HG0.out)) hwG hsG (ha1.of yReqReqS_law (fun x hx => hne x (hfa x hx))) (yReqReqS_law.ow_lt HF0.out.ow) (h1.of yMapRangeS_law (fun x hx => hne x (hfm x hx))) (h2.of yI_law (fun x hx => hne x (hfl x hx))))
    have HB : Hid (Below w.heap.size w (((W.setCell ⟨w.heap.size + 1, 0, none⟩ (.slice p1 m.l.length c1)).setCell ⟨w.heap.size + 1, 1, none⟩ (.slice p2 la.l.length c2)).setCell ⟨w.heap.size + 1, 2, none⟩ (.slice (some ⟨G, 0, none⟩) 3 3))) := Hid.intro ((((HBW.out.trans (hW.mono HBW.out.size)).setCell (p := ⟨w.heap.size + 1, 0, none⟩) (by simp) _).setCell (p := ⟨w.heap.size + 1, 1, none⟩) (by simp) _).setCell (p := ⟨w.heap.size + 1, 2, none⟩) (by simp) _)
    have HPL : Hid (yBusCfg.pl ((⟨p1, c1, m.l⟩, ⟨p2, c2, la.l⟩, ⟨some ⟨G, 0, none⟩, 3, threeQ n a⟩) : ((Lst (Int × Int × Int × Bool)) × (Lst Int) × (Lst (Lst (Int × Int × Int × Int × Bool × (Lst Int) × (Lst Int)))))) = busAloneP z (n : Int)) := Hid.intro (by
      rw [HE.out, HPN.out]
      have e1 : yBusCfg.pl ((⟨p1, c1, m.l⟩, ⟨p2, c2, la.l⟩, ⟨some ⟨G, 0, none⟩, 3, threeQ n a⟩) : ((Lst (Int × Int × Int × Bool)) × (Lst Int) × (Lst (Lst (Int × Int × Int × Int × Bool × (Lst Int) × (Lst Int)))))) = (yMapRangeS.pl m, yI.pl la, (threeQ n a).map yReqReqS.pl) := rfl
      rw [e1, three_pl, HPA.out.1])
    have HSI : Hid (yBusCfg.size ((⟨p1, c1, m.l⟩, ⟨p2, c2, la.l⟩, ⟨some ⟨G, 0, none⟩, 3, threeQ n a⟩) : ((Lst (Int × Int × Int × Bool)) × (Lst Int) × (Lst (Lst (Int × Int × Int × Int × Bool × (Lst Int) × (Lst Int)))))) ≤ 1048576) := Hid.intro (by
      have e1 : yBusCfg.size ((⟨p1, c1, m.l⟩, ⟨p2, c2, la.l⟩, ⟨some ⟨G, 0, none⟩, 3, threeQ n a⟩) : ((Lst (Int × Int × Int × Bool)) × (Lst Int) × (Lst (Lst (Int × Int × Int × Int × Bool × (Lst Int) × (Lst Int)))))) = yMapRangeS.size m + (yI.size la + (3 + ((threeQ n a).map yReqReqS.size).sum)) := rfl
      rw [e1, three_size hn3, HPA.out.2]
      exact HSN.out)
    clear hf hne hty hW bR' h1 h2 ha1 hfa hfm hfl
    simp only [fill, e32]
    go_simp
    go_wp2
    refine bodyPost_ret (v := .agg #[.slice p1 m.l.length c1, .slice p2 la.l.length c2, .slice (some ⟨G, 0, none⟩) 3 3]) (by simp [results, Try.results12, go_sem, s0, s1, s2]) rfl ⟨_, rfl, HPL.out, HSI.out, HFR.out, HB.out⟩

end Go.Proofs.Ytlifkfemdknndaa
