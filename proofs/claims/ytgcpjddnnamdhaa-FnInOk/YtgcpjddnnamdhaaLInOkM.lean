/-
  Proved: the law FnInOk: what comes from outside has a word for each. At every code (a row of bytes of any length) the law answers true and leaves its argument as it was. No condition.
-/
import Derived.Test.YtgcpjddnnamdhaaDrawInB
import Derived.Test.YtgcpjddnnamdhaaOpsX
import Derived.Test.YtgcpjddnnamdhaaRows
import Derived.Test.YtgcpjddnnamdhaaLawB
/-
  The law FnInOk, walked.
-/
namespace Go.Proofs.Ytgcpjddnnamdhaa.fnInOk
open Go.RowKit
set_option linter.unusedSimpArgs false
set_option linter.unusedVariables false

theorem in_len (l m n : Nat) (p q r : Option Addr) (a b c : Nat) (w : World) : Calls Try.prog 14 #[.agg #[.slice p l a, .slice q m b, .slice r n c]] w fun e w' => e = .returned (.bool (decide (l = 3) && (decide (m = 4) && decide (n = 3)))) ∧ Below w.heap.size w w' := by
  have := impl_InOk ⟨List.replicate l false, List.replicate m false, List.replicate n false⟩ p q r a b c w
  simpa [inV, inOkB] using this
theorem sin_len (l m n : Nat) (p q r : Option Addr) (a b c : Nat) (w : World) : Calls Try.prog 16 #[.agg #[.slice p l a, .slice q m b, .slice r n c]] w fun e w' => e = .returned (.bool (decide (l = 3) && (decide (m = 4) && decide (n = 3)))) ∧ Below w.heap.size w w' := by
  have := spec_InOk ⟨List.replicate l false, List.replicate m false, List.replicate n false⟩ p q r a b c w
  simpa [inV, inOkB] using this

/-- a row of one, cells known -/
def kOne : World → Value → Prop := fun w v => ∃ g, v = .slice (some ⟨g, 0, none⟩) 1 1 ∧ g < w.heap.size ∧ w.cell? ⟨g, 0, none⟩ = some (.bool true)
def kFour : World → Value → Prop := fun _ v => ∃ g c, v = .slice (some ⟨g, 0, none⟩) 4 c
def kAgg (u v : Value) : World → Value → Prop := fun _ x => ∃ g c, x = .agg #[u, v, .slice (some ⟨g, 0, none⟩) 4 c]
theorem stable_one {w w' : World} {v : Value} (hr : Gr w w') (h : kOne w v) : kOne w' v := by
  obtain ⟨g, h1, h2, h3⟩ := h
  exact ⟨g, h1, Nat.lt_of_lt_of_le h2 hr.size, (hr.cell (p := ⟨g, 0, none⟩) h2).trans h3⟩

theorem app_grow {ρ : Operand → Value} {o : Oper} {w : World} {s x g b off c : Nat} {ys : List Bool}
    (ho : o.op = .call { callee := .builtin .append, args := #[.tmp s, .tmp x], argTypes := #[33, 33] })
    (hs : ρ (.tmp s) = .slice (some ⟨g, 0, none⟩) 1 1) (hc : w.cell? ⟨g, 0, none⟩ = some (.bool true)) (hx : ρ (.tmp x) = .slice (some ⟨b, off, none⟩) 3 c) (hy : BoolsAt w (some ⟨b, off, none⟩) ys) (hl : ys.length = 3) {w5 : World} (hW : Below w5.heap.size w5 w) :
    ∃ v w', (execOp ρ o).run Try.prog w = .ok (.value v) w' ∧ Below w5.heap.size w5 w' ∧ Gr w w' ∧ kFour w' v := by
  obtain ⟨i0, hi, hz0, hz1, hz2⟩ := info_parts Try.infoBool
  have hadd : ∀ (b off j : Nat), (⟨b, off, none⟩ : Addr).add j = ⟨b, off + j, none⟩ := fun b off j => by unfold Addr.add; split <;> simp_all
  obtain ⟨v', w', hrun, r1, r2⟩ := run_append_arg_grows (P := Try.prog) w 33 o.type 4 i0 _ 1 1 Try.underlying33 hi hz0 hz1 hz2 rfl (by omega) ⟨g, 0, none⟩ 1 1 [.bool true] rfl (fun j u hj => by
      have : j = 0 := by
        have := (List.getElem?_eq_some_iff.1 hj).1
        simp at this; omega
      subst this
      simp at hj
      rw [hadd, ← hj]; exact hc) ⟨b, off, none⟩ 3 c (ys.map Value.bool) (by simp [hl]) (fun j u hj => by
      have hlt : j < ys.length := by have := (List.getElem?_eq_some_iff.1 hj).1; simpa using this
      rcases hy with h | ⟨b', off', e, h2, h3⟩
      · subst h; simp at hlt
      · cases e
        rw [hadd, h3 j hlt]
        simpa [hlt] using hj) (by omega) (by unfold maxLen; omega) (by omega)
  obtain ⟨hlen, hn | ⟨g', cap', cur', hv, k1, k2, k3, k4, k5, k6⟩⟩ := r1
  · omega
  subst hv
  have hG : Below w.heap.size w w' := ⟨r2.os, r2.tape, r2.output, r2.size, fun z hz => r2.block z hz (by simp)⟩
  refine ⟨_, w', ?_, hW.trans (hG.mono hW.size), hG, ⟨g', cap', rfl⟩⟩
  unfold execOp
  simp only [ho, resolve, invoke, builtin, Sem.run_bind, Sem.run_pure, Result.andThen_ok, List.map_toArray, List.map_cons, List.map_nil, hs, hx, hrun]

theorem all_cells {M : Nat} {w : World} {g h k : Nat} (o : InOwn M w inAllX g h k) (n : Nat) (hn : n < 3) : w.cell? ⟨g, n, none⟩ = some (.bool true) ∧ w.cell? ⟨h, n, none⟩ = some (.bool false) ∧ w.cell? ⟨k, n, none⟩ = some (.bool true) := by
  have : n = 0 ∨ n = 1 ∨ n = 2 := by omega
  rcases this with rfl | rfl | rfl <;> exact ⟨o.ready.get _ _ rfl, o.stall.get _ _ rfl, o.send.get _ _ rfl⟩

set_option maxRecDepth 100000 in
set_option maxHeartbeats 8000000 in
theorem walk_FnInOk (a : Option Addr) (len cap : Nat) (w : World) (hc : len ≤ cap) (hm : cap ≤ 9223372036854775807) (hb : Bytes w w.heap.size a len) :
    Calls Try.prog 4 #[.slice a len cap] w fun e w' => e = .returned (.bool true) ∧ Below w.heap.size w w' := by
  by_cases hl : 1048576 < len
  · have hI1 : (1048576 : Int) < (len : Int) := by omega
    clear hb
    go_enter Try.func4, Try.ntmps4
    go_wp2
    go_ret
    exact ⟨rfl, Below.refl _ _⟩
  have hI1 : ¬ (1048576 : Int) < (len : Int) := by omega
  have HBy := Hid.intro hb
  clear hb
  go_enter Try.func4, Try.ntmps4
  go_wp2_with fail
  refine (drawInOk_any a len cap w hc hm HBy.out).mono ?_
  rintro e w1 ⟨x, p, q, r, i, j, k, aa, bb, cc, rfl, hA, hB1⟩
  obtain ⟨n1, e1⟩ : ∃ n, n = x.ready.length := ⟨_, rfl⟩
  obtain ⟨n2, e2⟩ : ∃ n, n = x.stall.length := ⟨_, rfl⟩
  obtain ⟨n3, e3⟩ : ∃ n, n = x.send.length := ⟨_, rfl⟩
  unfold inV
  rw [← e1, ← e2, ← e3]
  have HA := Hid.intro hA
  have E3 := Hid.intro e3
  have c1 := hA.a1
  have c2 := hA.a2
  have c3 := hA.b1
  have c4 := hA.b2
  have c5 := hA.c1
  have c6 := hA.c2
  rw [← e1] at c1
  rw [← e2] at c3
  rw [← e3] at c5
  obtain ⟨ok, eok⟩ : ∃ v, v = (decide (n1 = 3) && (decide (n2 = 4) && decide (n3 = 3))) := ⟨_, rfl⟩
  have HI := Hid.intro (fun W => in_len n1 n2 n3 (some ⟨p, i, none⟩) (some ⟨q, j, none⟩) (some ⟨r, k, none⟩) aa bb cc W)
  have HS := Hid.intro (fun W => sin_len n1 n2 n3 (some ⟨p, i, none⟩) (some ⟨q, j, none⟩) (some ⟨r, k, none⟩) aa bb cc W)
  rw [← eok] at HI HS
  have Eok := Hid.intro eok
  clear e1 e2 e3 hA HBy eok
  go_wp2_with fail
  refine (HI.out _).mono ?_
  rintro e w2 ⟨rfl, hb2⟩
  have hs2 := hb2.size
  simp only [World.size_alloc] at hs2
  have hx1 : Below w1.heap.size w1 (w1.alloc (.cells #[.slice (some ⟨p, i, none⟩) n1 aa, .slice (some ⟨q, j, none⟩) n2 bb, .slice (some ⟨r, k, none⟩) n3 cc] 35)) := (Below.refl _ _).alloc (Nat.le_refl _) _
  have bI : w2.heap[w1.heap.size]? = some (.cells #[.slice (some ⟨p, i, none⟩) n1 aa, .slice (some ⟨q, j, none⟩) n2 bb, .slice (some ⟨r, k, none⟩) n3 cc] 35 (0, 0)) := (hb2.block _ (by simp)).trans (in_nw _ rfl)
  have hg2 : Below w1.heap.size w1 w2 := hx1.trans (hb2.mono (by simp))
  have HA2 := Hid.intro (HA.out.send.below hg2)
  have hB2 := hB1.trans (hg2.mono hB1.size)
  obtain ⟨I, eI⟩ : ∃ v, v = w1.heap.size := ⟨_, rfl⟩
  rw [← eI] at bI ⊢
  clear hb2 hx1 hg2 HA hB1 eI hs2
  go_wp2_with fail
  refine (impl_InAll w2).mono ?_
  rintro e w3 ⟨g, h, l, rfl, hO, hb3⟩
  have bI3 := (hb3.block I (heap_lt bI)).trans bI
  have HA3 := Hid.intro (HA2.out.below hb3)
  have hB3 := hB2.trans (hb3.mono hB2.size)
  have hIl := heap_lt bI3
  have HO := Hid.intro hO
  clear hb3 bI HA2 hB2 hO
  have i0 : w3.cell? ⟨I, 0, none⟩ = some (.slice (some ⟨p, i, none⟩) n1 aa) := heap_cell bI3 0
  have i1 : w3.cell? ⟨I, 1, none⟩ = some (.slice (some ⟨q, j, none⟩) n2 bb) := heap_cell bI3 1
  have i2 : w3.cell? ⟨I, 2, none⟩ = some (.slice (some ⟨r, k, none⟩) n3 cc) := heap_cell bI3 2
  have hinv : inV inAllX (some ⟨g, 0, none⟩) (some ⟨h, 0, none⟩) (some ⟨l, 0, none⟩) 3 4 3 = .agg #[.slice (some ⟨g, 0, none⟩) 3 3, .slice (some ⟨h, 0, none⟩) 4 4, .slice (some ⟨l, 0, none⟩) 3 3] := rfl
  rw [hinv]
  clear hinv
  go_wp2_with fail
  refine (HS.out _).mono ?_
  rintro e w4 ⟨rfl, hb4⟩
  have hs4 := hb4.size
  simp only [World.size_alloc] at hs4
  have hx3 : Below w3.heap.size w3 (w3.alloc (.cells #[.slice (some ⟨g, 0, none⟩) 3 3, .slice (some ⟨h, 0, none⟩) 4 4, .slice (some ⟨l, 0, none⟩) 3 3] 35)) := (Below.refl _ _).alloc (Nat.le_refl _) _
  have bL : w4.heap[w3.heap.size]? = some (.cells #[.slice (some ⟨g, 0, none⟩) 3 3, .slice (some ⟨h, 0, none⟩) 4 4, .slice (some ⟨l, 0, none⟩) 3 3] 35 (0, 0)) := (hb4.block _ (by simp)).trans (in_nw _ rfl)
  have hg4 : Below w3.heap.size w3 w4 := hx3.trans (hb4.mono (by simp))
  have bI4 := (hg4.block I hIl).trans bI3
  have HA4 := Hid.intro (HA3.out.below hg4)
  have HO4 := Hid.intro (HO.out.below hg4)
  have hB4 := hB3.trans (hg4.mono hB3.size)
  obtain ⟨L, eL⟩ : ∃ v, v = w3.heap.size := ⟨_, rfl⟩
  rw [← eL] at bL ⊢
  clear hb4 hx3 hg4 HA3 hB3 HO eL hs4 bI3 i0 i1 i2 hIl
  have j0 : w4.cell? ⟨L, 0, none⟩ = some (.slice (some ⟨g, 0, none⟩) 3 3) := heap_cell bL 0
  have j1 : w4.cell? ⟨L, 1, none⟩ = some (.slice (some ⟨h, 0, none⟩) 4 4) := heap_cell bL 1
  have j2 : w4.cell? ⟨L, 2, none⟩ = some (.slice (some ⟨l, 0, none⟩) 3 3) := heap_cell bL 2
  have hokk : (ok != ok) = false := by simp
  go_wp2_with fail
  refine (in_len 3 4 3 (some ⟨g, 0, none⟩) (some ⟨h, 0, none⟩) (some ⟨l, 0, none⟩) 3 4 3 w4).mono ?_
  rintro e w5 ⟨rfl, hb5⟩
  have bI5 := (hb5.block I (heap_lt bI4)).trans bI4
  have bL5 := (hb5.block L (heap_lt bL)).trans bL
  have HA5 := Hid.intro (HA4.out.below hb5)
  have HO5 := Hid.intro (HO4.out.below hb5)
  have hB5 := hB4.trans (hb5.mono hB4.size)
  clear hb5 HA4 HO4 hB4 bI4 bL j0 j1 j2
  have j0 : w5.cell? ⟨L, 0, none⟩ = some (.slice (some ⟨g, 0, none⟩) 3 3) := heap_cell bL5 0
  have j1 : w5.cell? ⟨L, 1, none⟩ = some (.slice (some ⟨h, 0, none⟩) 4 4) := heap_cell bL5 1
  have j2 : w5.cell? ⟨L, 2, none⟩ = some (.slice (some ⟨l, 0, none⟩) 3 3) := heap_cell bL5 2
  have BI5 := Hid.intro bI5
  clear bI5 bL5
  go_wp2
  go_loopw [6] (fun v wr => ∃ n : Nat, n ≤ 3 ∧ v = .int .i64 n ∧ wr = w5) (fun v _ => 3 - (intOf v).toNat)
  case atStart => exact ⟨0, by omega, rfl, rfl⟩
  case round =>
    obtain ⟨n, hn, rfl, hwr⟩ := hrel
    have hwr2 := hwr.symm
    clear hwr
    subst hwr2
    by_cases hlt : n < 3
    · obtain ⟨t0, t1, t2⟩ := all_cells HO5.out n hlt
      have hn0 : (0 : Int) ≤ (n : Int) := by omega
      have hn1 : (n : Int) < 3 := by omega
      have hn2 : (n : Int) < 4 := by omega
      go_wp2
      go_roundw
      case rel => exact ⟨n + 1, by omega, by go_num, by first | rfl | simp⟩
      case measure => simp [intOf]; omega
    · have hn3 : ¬ (n : Int) < 3 := by omega
      cases ok
      · go_wp2
        go_ret
        exact ⟨rfl, hB5⟩
      have hall : n1 = 3 ∧ n2 = 4 ∧ n3 = 3 := by simpa using Eok.out.symm
      obtain ⟨rfl, rfl, rfl⟩ := hall
      have hIl := heap_lt BI5.out
      have hsend := HA5.out
      have hln := E3.out.symm
      have ha1 : ¬ aa = 1 := by omega
      have hb1 : ¬ bb = 1 := by omega
      clear HI HS Eok E3 HO5 j0 j1 j2 hokk
      go_wp2_with fail
      refine wp_region_typed (by kernel_rfl) Gr (fun _ W => Below w5.heap.size w5 W)
        (tab [(51, kIs (.pointer (some ⟨I, 0, none⟩))), (52, kIs (.slice (some ⟨p, i, none⟩) 3 aa)), (53, kIs (.slice (some ⟨p, i + 1, none⟩) 2 (aa - 1))), (54, kIs (.pointer (some ⟨I, 1, none⟩))), (55, kIs (.slice (some ⟨q, j, none⟩) 4 bb)), (56, kIs (.pointer (some ⟨I, 2, none⟩))), (57, kIs (.slice (some ⟨r, k, none⟩) 3 cc)), (58, kIs (.agg #[.slice (some ⟨p, i + 1, none⟩) 2 (aa - 1), .slice (some ⟨q, j, none⟩) 4 bb, .slice (some ⟨r, k, none⟩) 3 cc])), (59, kIs (.bool false)), (60, kIs (.bool true)), (61, kIs (.bool true)), (62, kIs (.pointer (some ⟨I, 0, none⟩))), (63, kIs (.slice (some ⟨p, i, none⟩) 3 aa)), (64, kIs (.pointer (some ⟨I, 1, none⟩))), (65, kIs (.slice (some ⟨q, j, none⟩) 4 bb)), (66, kIs (.slice (some ⟨q, j + 1, none⟩) 3 (bb - 1))), (67, kIs (.pointer (some ⟨I, 2, none⟩))), (68, kIs (.slice (some ⟨r, k, none⟩) 3 cc)), (69, kIs (.agg #[.slice (some ⟨p, i, none⟩) 3 aa, .slice (some ⟨q, j + 1, none⟩) 3 (bb - 1), .slice (some ⟨r, k, none⟩) 3 cc])), (70, kIs (.bool false)), (71, kIs (.bool true)), (72, kIs (.bool true)), (73, kIs (.bool true)), (74, kIs (.pointer (some ⟨I, 0, none⟩))), (75, kIs (.slice (some ⟨p, i, none⟩) 3 aa)), (76, kIs (.pointer (some ⟨I, 1, none⟩))), (77, kIs (.slice (some ⟨q, j, none⟩) 4 bb)), (78, kOne), (79, kIs (.pointer (some ⟨I, 2, none⟩))), (80, kIs (.slice (some ⟨r, k, none⟩) 3 cc)), (81, kFour), (82, kAgg (.slice (some ⟨p, i, none⟩) 3 aa) (.slice (some ⟨q, j, none⟩) 4 bb)), (83, kIs (.bool false)), (84, kIs (.bool true)), (85, kIs (.bool true)), (2, kIs (.bool true))])
        [51, 52, 53, 54, 55, 56, 57, 58, 59, 60, 61, 62, 63, 64, 65, 66, 67, 68, 69, 70, 71, 72, 73, 74, 75, 76, 77, 78, 79, 80, 81, 82, 83, 84, 85, 2] (by kernel_rfl) (by kernel_rfl) ?_ ?_ ?_ ?_
      · refine tabR_stable ?_
        intro y hy
        simp only [List.mem_cons, List.not_mem_nil, or_false] at hy
        rcases hy with rfl | rfl | rfl | rfl | rfl | rfl | rfl | rfl | rfl | rfl | rfl | rfl | rfl | rfl | rfl | rfl | rfl | rfl | rfl | rfl | rfl | rfl | rfl | rfl | rfl | rfl | rfl | rfl | rfl | rfl | rfl | rfl | rfl | rfl | rfl | rfl
        all_goals intro w w' v hr hv
        all_goals first | exact hv | exact stable_one hr hv
      · exact (Below.refl _ _).drew
      · skip
        refine ops_cons (gd rfl <| tx_pure rfl rfl (fun _ _ h => h) Gr.refl (fun _ ρ W hat hW => ?_)) ?_
        · have e2 := hat.out 3 (by kernel_rfl)
          simp [Act.eval] at e2
          simp only [execOp, e2]; go_simp
        refine ops_cons (gd rfl <| tx_pure rfl rfl (fun _ _ h => h) Gr.refl (fun _ ρ W hat hW => ?_)) ?_
        · have bW := (hW.block I hIl).trans BI5.out
          have cW : W.cell? ⟨I, 0, none⟩ = some (.slice (some ⟨p, i, none⟩) 3 aa) := heap_cell bW 0
          have e1 : ρ (.tmp 51) = _ := hat.dep 51 (by kernel_rfl)
          clear bW
          simp only [execOp, e1]; go_simp
        refine ops_cons (gd rfl <| tx_pure rfl rfl (fun _ _ h => h) Gr.refl (fun _ ρ W hat hW => ?_)) ?_
        · have hcon := hat.con
          have e1 : ρ (.tmp 52) = _ := hat.dep 52 (by kernel_rfl)
          simp only [execOp, hcon, e1]; go_simp
        refine ops_cons (gd rfl <| tx_pure rfl rfl (fun _ _ h => h) Gr.refl (fun _ ρ W hat hW => ?_)) ?_
        · have e2 := hat.out 3 (by kernel_rfl)
          simp [Act.eval] at e2
          simp only [execOp, e2]; go_simp
        refine ops_cons (gd rfl <| tx_pure rfl rfl (fun _ _ h => h) Gr.refl (fun _ ρ W hat hW => ?_)) ?_
        · have bW := (hW.block I hIl).trans BI5.out
          have cW : W.cell? ⟨I, 1, none⟩ = some (.slice (some ⟨q, j, none⟩) 4 bb) := heap_cell bW 1
          have e1 : ρ (.tmp 54) = _ := hat.dep 54 (by kernel_rfl)
          clear bW
          simp only [execOp, e1]; go_simp
        refine ops_cons (gd rfl <| tx_pure rfl rfl (fun _ _ h => h) Gr.refl (fun _ ρ W hat hW => ?_)) ?_
        · have e2 := hat.out 3 (by kernel_rfl)
          simp [Act.eval] at e2
          simp only [execOp, e2]; go_simp
        refine ops_cons (gd rfl <| tx_pure rfl rfl (fun _ _ h => h) Gr.refl (fun _ ρ W hat hW => ?_)) ?_
        · have bW := (hW.block I hIl).trans BI5.out
          have cW : W.cell? ⟨I, 2, none⟩ = some (.slice (some ⟨r, k, none⟩) 3 cc) := heap_cell bW 2
          have e1 : ρ (.tmp 56) = _ := hat.dep 56 (by kernel_rfl)
          clear bW
          simp only [execOp, e1]; go_simp
        refine ops_cons (gd rfl <| tx_pure rfl rfl (fun _ _ h => h) Gr.refl (fun _ ρ W hat hW => ?_)) ?_
        · have hcon := hat.con
          have e1 : ρ (.tmp 53) = _ := hat.dep 53 (by kernel_rfl)
          have e2 : ρ (.tmp 55) = _ := hat.dep 55 (by kernel_rfl)
          have e3 : ρ (.tmp 57) = _ := hat.dep 57 (by kernel_rfl)
          simp only [execOp, hcon, e1, e2, e3]; go_simp
        refine ops_cons (gd rfl <| tx_call rfl (fun _ ρ W _ hat hW => ?_)) ?_
        · have e1 : ρ (.tmp 58) = _ := hat.dep 58 (by kernel_rfl)
          have hf := hat.fn
          refine ⟨14, #[.agg #[.slice (some ⟨p, i + 1, none⟩) 2 (aa - 1), .slice (some ⟨q, j, none⟩) 4 bb, .slice (some ⟨r, k, none⟩) 3 cc]], by simp only [execOp]; go_simp, ?_⟩
          refine (in_len 2 4 3 _ _ _ _ _ _ W).mono ?_
          rintro e W' ⟨rfl, hb⟩
          exact ⟨_, rfl, hW.trans (hb.mono hW.size), hb, rfl⟩
        refine ops_cons (gd rfl <| tx_pure rfl rfl (fun _ _ h => h) Gr.refl (fun _ ρ W hat hW => ?_)) ?_
        · have hcon := hat.con
          have e1 : ρ (.tmp 59) = _ := hat.dep 59 (by kernel_rfl)
          simp only [execOp, hcon, e1]; go_simp
        refine ops_cons (gd rfl <| tx_pure rfl rfl (fun _ _ h => h) Gr.refl (fun _ ρ W hat hW => ?_)) ?_
        · have hcon := hat.con
          have e1 : ρ (.tmp 60) = _ := hat.dep 60 (by kernel_rfl)
          simp only [execOp, hcon, e1]; go_simp
        refine ops_cons (gdG 10 true rfl _ rfl 61 rfl rfl (by kernel_rfl) <| tx_pure rfl rfl (fun _ _ h => h) Gr.refl (fun _ ρ W hat hW => ?_)) ?_
        · have e2 := hat.out 3 (by kernel_rfl)
          simp [Act.eval] at e2
          simp only [execOp, e2]; go_simp
        refine ops_cons (gdG 10 true rfl _ rfl 61 rfl rfl (by kernel_rfl) <| tx_pure rfl rfl (fun _ _ h => h) Gr.refl (fun _ ρ W hat hW => ?_)) ?_
        · have bW := (hW.block I hIl).trans BI5.out
          have cW : W.cell? ⟨I, 0, none⟩ = some (.slice (some ⟨p, i, none⟩) 3 aa) := heap_cell bW 0
          have e1 : ρ (.tmp 62) = _ := hat.dep 62 (by kernel_rfl)
          clear bW
          simp only [execOp, e1]; go_simp
        refine ops_cons (gdG 10 true rfl _ rfl 61 rfl rfl (by kernel_rfl) <| tx_pure rfl rfl (fun _ _ h => h) Gr.refl (fun _ ρ W hat hW => ?_)) ?_
        · have e2 := hat.out 3 (by kernel_rfl)
          simp [Act.eval] at e2
          simp only [execOp, e2]; go_simp
        refine ops_cons (gdG 10 true rfl _ rfl 61 rfl rfl (by kernel_rfl) <| tx_pure rfl rfl (fun _ _ h => h) Gr.refl (fun _ ρ W hat hW => ?_)) ?_
        · have bW := (hW.block I hIl).trans BI5.out
          have cW : W.cell? ⟨I, 1, none⟩ = some (.slice (some ⟨q, j, none⟩) 4 bb) := heap_cell bW 1
          have e1 : ρ (.tmp 64) = _ := hat.dep 64 (by kernel_rfl)
          clear bW
          simp only [execOp, e1]; go_simp
        refine ops_cons (gdG 10 true rfl _ rfl 61 rfl rfl (by kernel_rfl) <| tx_pure rfl rfl (fun _ _ h => h) Gr.refl (fun _ ρ W hat hW => ?_)) ?_
        · have hcon := hat.con
          have e1 : ρ (.tmp 65) = _ := hat.dep 65 (by kernel_rfl)
          simp only [execOp, hcon, e1]; go_simp
        refine ops_cons (gdG 10 true rfl _ rfl 61 rfl rfl (by kernel_rfl) <| tx_pure rfl rfl (fun _ _ h => h) Gr.refl (fun _ ρ W hat hW => ?_)) ?_
        · have e2 := hat.out 3 (by kernel_rfl)
          simp [Act.eval] at e2
          simp only [execOp, e2]; go_simp
        refine ops_cons (gdG 10 true rfl _ rfl 61 rfl rfl (by kernel_rfl) <| tx_pure rfl rfl (fun _ _ h => h) Gr.refl (fun _ ρ W hat hW => ?_)) ?_
        · have bW := (hW.block I hIl).trans BI5.out
          have cW : W.cell? ⟨I, 2, none⟩ = some (.slice (some ⟨r, k, none⟩) 3 cc) := heap_cell bW 2
          have e1 : ρ (.tmp 67) = _ := hat.dep 67 (by kernel_rfl)
          clear bW
          simp only [execOp, e1]; go_simp
        refine ops_cons (gdG 10 true rfl _ rfl 61 rfl rfl (by kernel_rfl) <| tx_pure rfl rfl (fun _ _ h => h) Gr.refl (fun _ ρ W hat hW => ?_)) ?_
        · have hcon := hat.con
          have e1 : ρ (.tmp 63) = _ := hat.dep 63 (by kernel_rfl)
          have e2 : ρ (.tmp 66) = _ := hat.dep 66 (by kernel_rfl)
          have e3 : ρ (.tmp 68) = _ := hat.dep 68 (by kernel_rfl)
          simp only [execOp, hcon, e1, e2, e3]; go_simp
        refine ops_cons (gdG 10 true rfl _ rfl 61 rfl rfl (by kernel_rfl) <| tx_call rfl (fun _ ρ W _ hat hW => ?_)) ?_
        · have e1 : ρ (.tmp 69) = _ := hat.dep 69 (by kernel_rfl)
          have hf := hat.fn
          refine ⟨14, #[.agg #[.slice (some ⟨p, i, none⟩) 3 aa, .slice (some ⟨q, j + 1, none⟩) 3 (bb - 1), .slice (some ⟨r, k, none⟩) 3 cc]], by simp only [execOp]; go_simp, ?_⟩
          refine (in_len 3 3 3 _ _ _ _ _ _ W).mono ?_
          rintro e W' ⟨rfl, hb⟩
          exact ⟨_, rfl, hW.trans (hb.mono hW.size), hb, rfl⟩
        refine ops_cons (gdG 10 true rfl _ rfl 61 rfl rfl (by kernel_rfl) <| tx_pure rfl rfl (fun _ _ h => h) Gr.refl (fun _ ρ W hat hW => ?_)) ?_
        · have hcon := hat.con
          have e1 : ρ (.tmp 70) = _ := hat.dep 70 (by kernel_rfl)
          simp only [execOp, hcon, e1]; go_simp
        refine ops_cons (gd rfl <| tx_pure rfl rfl (fun _ _ h => h) Gr.refl (fun _ ρ W hat hW => ?_)) ?_
        · have hcon := hat.con
          have e1 : ρ (.tmp 61) = _ := hat.dep 61 (by kernel_rfl)
          have e2 : ρ (.tmp 71) = _ := hat.dep 71 (by kernel_rfl)
          simp only [execOp, hcon, e1, e2]; go_simp
        refine ops_cons (gd rfl <| tx_pure rfl rfl (fun _ _ h => h) Gr.refl (fun _ ρ W hat hW => ?_)) ?_
        · have hcon := hat.con
          have e1 : ρ (.tmp 72) = _ := hat.dep 72 (by kernel_rfl)
          simp only [execOp, hcon, e1]; go_simp
        refine ops_cons (gdG 22 true rfl _ rfl 73 rfl rfl (by kernel_rfl) <| tx_pure rfl rfl (fun _ _ h => h) Gr.refl (fun _ ρ W hat hW => ?_)) ?_
        · have e2 := hat.out 3 (by kernel_rfl)
          simp [Act.eval] at e2
          simp only [execOp, e2]; go_simp
        refine ops_cons (gdG 22 true rfl _ rfl 73 rfl rfl (by kernel_rfl) <| tx_pure rfl rfl (fun _ _ h => h) Gr.refl (fun _ ρ W hat hW => ?_)) ?_
        · have bW := (hW.block I hIl).trans BI5.out
          have cW : W.cell? ⟨I, 0, none⟩ = some (.slice (some ⟨p, i, none⟩) 3 aa) := heap_cell bW 0
          have e1 : ρ (.tmp 74) = _ := hat.dep 74 (by kernel_rfl)
          clear bW
          simp only [execOp, e1]; go_simp
        refine ops_cons (gdG 22 true rfl _ rfl 73 rfl rfl (by kernel_rfl) <| tx_pure rfl rfl (fun _ _ h => h) Gr.refl (fun _ ρ W hat hW => ?_)) ?_
        · have e2 := hat.out 3 (by kernel_rfl)
          simp [Act.eval] at e2
          simp only [execOp, e2]; go_simp
        refine ops_cons (gdG 22 true rfl _ rfl 73 rfl rfl (by kernel_rfl) <| tx_pure rfl rfl (fun _ _ h => h) Gr.refl (fun _ ρ W hat hW => ?_)) ?_
        · have bW := (hW.block I hIl).trans BI5.out
          have cW : W.cell? ⟨I, 1, none⟩ = some (.slice (some ⟨q, j, none⟩) 4 bb) := heap_cell bW 1
          have e1 : ρ (.tmp 76) = _ := hat.dep 76 (by kernel_rfl)
          clear bW
          simp only [execOp, e1]; go_simp
        refine ops_cons (gdG 22 true rfl _ rfl 73 rfl rfl (by kernel_rfl) <| tx_val rfl (fun _ ρ W _ hat hW => ?_)) ?_
        · refine ⟨.slice (some ⟨W.heap.size, 0, none⟩) 1 1, W.alloc (.cells #[.bool true] 4), ?_, hW.trans (((Below.refl _ W).alloc (Nat.le_refl _) _).mono hW.size), (Below.refl _ W).alloc (Nat.le_refl _) _, W.heap.size, rfl, by simp, by simp⟩
          have hcon := hat.con
          simp only [execOp, hcon]; go_simp
        refine ops_cons (gdG 22 true rfl _ rfl 73 rfl rfl (by kernel_rfl) <| tx_pure rfl rfl (fun _ _ h => h) Gr.refl (fun _ ρ W hat hW => ?_)) ?_
        · have e2 := hat.out 3 (by kernel_rfl)
          simp [Act.eval] at e2
          simp only [execOp, e2]; go_simp
        refine ops_cons (gdG 22 true rfl _ rfl 73 rfl rfl (by kernel_rfl) <| tx_pure rfl rfl (fun _ _ h => h) Gr.refl (fun _ ρ W hat hW => ?_)) ?_
        · have bW := (hW.block I hIl).trans BI5.out
          have cW : W.cell? ⟨I, 2, none⟩ = some (.slice (some ⟨r, k, none⟩) 3 cc) := heap_cell bW 2
          have e1 : ρ (.tmp 79) = _ := hat.dep 79 (by kernel_rfl)
          clear bW
          simp only [execOp, e1]; go_simp
        refine ops_cons (gdG 22 true rfl _ rfl 73 rfl rfl (by kernel_rfl) <| tx_val rfl (fun _ ρ W _ hat hW => ?_)) ?_
        · obtain ⟨g1, e1, _, hc1⟩ : kOne W (ρ (.tmp 78)) := hat.dep 78 (by kernel_rfl)
          have e2 : ρ (.tmp 80) = _ := hat.dep 80 (by kernel_rfl)
          exact app_grow rfl e1 hc1 e2 (hsend.below hW) hln hW
        refine ops_cons (gdG 22 true rfl _ rfl 73 rfl rfl (by kernel_rfl) <| tx_val rfl (fun _ ρ W _ hat hW => ?_)) ?_
        · have e1 : ρ (.tmp 75) = _ := hat.dep 75 (by kernel_rfl)
          have e2 : ρ (.tmp 77) = _ := hat.dep 77 (by kernel_rfl)
          obtain ⟨g1, c9, e3⟩ : kFour W (ρ (.tmp 81)) := hat.dep 81 (by kernel_rfl)
          refine ⟨.agg #[.slice (some ⟨p, i, none⟩) 3 aa, .slice (some ⟨q, j, none⟩) 4 bb, .slice (some ⟨g1, 0, none⟩) 4 c9], W, ?_, hW, Gr.refl W, g1, c9, rfl⟩
          simp only [execOp, e1, e2, e3]; go_simp
        refine ops_cons (gdG 22 true rfl _ rfl 73 rfl rfl (by kernel_rfl) <| tx_call rfl (fun _ ρ W _ hat hW => ?_)) ?_
        · obtain ⟨g1, c9, e1⟩ : kAgg (.slice (some ⟨p, i, none⟩) 3 aa) (.slice (some ⟨q, j, none⟩) 4 bb) W (ρ (.tmp 82)) := hat.dep 82 (by kernel_rfl)
          have hf := hat.fn
          refine ⟨14, #[.agg #[.slice (some ⟨p, i, none⟩) 3 aa, .slice (some ⟨q, j, none⟩) 4 bb, .slice (some ⟨g1, 0, none⟩) 4 c9]], by simp only [execOp]; go_simp, ?_⟩
          refine (in_len 3 4 4 _ _ _ _ _ _ W).mono ?_
          rintro e W' ⟨rfl, hb⟩
          exact ⟨_, rfl, hW.trans (hb.mono hW.size), hb, rfl⟩
        refine ops_cons (gdG 22 true rfl _ rfl 73 rfl rfl (by kernel_rfl) <| tx_pure rfl rfl (fun _ _ h => h) Gr.refl (fun _ ρ W hat hW => ?_)) ?_
        · have hcon := hat.con
          have e1 : ρ (.tmp 83) = _ := hat.dep 83 (by kernel_rfl)
          simp only [execOp, hcon, e1]; go_simp
        refine ops_cons (gd rfl <| tx_pure rfl rfl (fun _ _ h => h) Gr.refl (fun _ ρ W hat hW => ?_)) ?_
        · have hcon := hat.con
          have e1 : ρ (.tmp 73) = _ := hat.dep 73 (by kernel_rfl)
          have e2 : ρ (.tmp 84) = _ := hat.dep 84 (by kernel_rfl)
          simp only [execOp, hcon, e1, e2]; go_simp
        refine ops_cons (gd rfl <| tx_pure rfl rfl (fun _ _ h => h) Gr.refl (fun _ ρ W hat hW => ?_)) ?_
        · have hcon := hat.con
          have e1 : ρ (.tmp 85) = _ := hat.dep 85 (by kernel_rfl)
          simp only [execOp, hcon, e1]; go_simp
        exact ops_nil
      · intro f W hW hf
        have e2 : f 2 = .bool true := hf 2 (by simp)
        clear hf
        have hbW := hB5.trans (hW.mono hB5.size)
        simp only [fill, e2]
        go_simp
        go_wp2
        go_ret
        exact ⟨rfl, hbW⟩

end Go.Proofs.Ytgcpjddnnamdhaa.fnInOk

namespace Go.Proofs.Ytgcpjddnnamdhaa.fnInOk
open Go.ChangeShapes Go.WideShapes Go.ChangeAt Go.RowKit
set_option linter.unusedVariables false
set_option linter.unusedSimpArgs false

set_option maxRecDepth 100000 in
theorem lifted (os : Os) (started : os.Started) (H : Type) (enc : TypeId × Value → H) :
    ReturnsInHanded {} Try.checked os 4 .any (Rows.fnInOkSpec.pre6 enc Try.prog Try.f4 Rows.fnInOkRow.domain false) (Rows.fnInOkSpec.post enc Try.prog Try.f4 false true false false) := by
  refine returnsInHanded_of_change (C := Try.checked) ownB started (by kernel_rfl) Try.func4
    (ChangeSpec.witness6 (enc := enc) (C := Try.checked) false ⟨#[], #[.slice none 0 0], []⟩ 8 (by kernel_rfl) (by kernel_rfl) (by kernel_rfl) (by kernel_rfl)) ?_
  intro W base args ds gs before hval0 hW hcnd _
  have hval : ∀ (j : Nat) t v, Try.f4.params[j]? = some t → args[j]? = some v → Value.okWide Try.prog W .any base t v := hval0
  have hW' := hW
  obtain ⟨p, q, hA0, hV, rfl, hfz, hnd⟩ := hW
  have hA : DataW.TrodAll enc Try.prog W 0 (fun _ => true) true Try.f4.params.toList args.toList ds p := hA0
  rw [Try.params4] at hA hval
  obtain ⟨v0, vs0, d0, ds0, p0, q0, hargs, rfl, rfl, h0, r0⟩ := trodAll_cons hA
  obtain ⟨rfl, rfl, rfl⟩ := trodAll_nil r0
  obtain rfl : args = #[v0] := by cases args; simp_all
  obtain ⟨rfl, rfl⟩ := trodVars_none hV
  obtain ⟨a0, len0, cap0, rfl⟩ := okWide_slice Try.underlying22 (hval 0 22 v0 rfl rfl)
  have k0 := h0
  have lt0 : ∀ x ∈ p0, x.block < W.heap.size := by obtain ⟨m, hm⟩ := k0; exact DataW.trod_lt m _ _ _ hm
  obtain ⟨hx, hc, hm⟩ := open_bytes h0
  clear hA0 hval0
  refine (walk_FnInOk a0 len0 cap0 W hc hm hx).mono fun e W' ⟨he, bel⟩ => ?_
  subst he
  exact ⟨_, rfl, _, _, _, [], _, [], hW', trodAll_mk1 (shut_bool Try.underlying4 _), (trodAll_cons_mk (Below.trod laidOutC (by kernel_rfl) (of_decide_eq_true (by kernel_rfl)) k0 bel lt0) trodAll_mk0), rfl, bel.frame _, fun h => by cases h⟩

theorem over : Rows.fnInOkRow.holds Try.pinned (OpenSpec.ofChange Rows.fnInOkSpec) :=
  OpenClaim.holds_of_wide 4 Try.f4 rfl rfl rfl rfl rfl rfl rfl ⟨rfl, rfl, rfl, rfl, rfl⟩ rfl rfl rfl rfl rfl (by kernel_rfl) Try.func4 (by kernel_rfl)
    (of_decide_eq_true (by kernel_rfl)) (by unfold Func.isWrapper; first | (rw [if_pos (by decide +kernel)]; kernel_rfl) | (rw [if_neg (by decide +kernel)]; exact ⟨rfl, rfl⟩))
    (fun os started H enc _ => lifted os started H enc)

theorem proved : Rows.FnInOkSaid := over
end Go.Proofs.Ytgcpjddnnamdhaa.fnInOk
