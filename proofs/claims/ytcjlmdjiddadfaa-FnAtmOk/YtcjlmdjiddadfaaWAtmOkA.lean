/-
  The law FnAtmOk, walked, by what AtmOk of the program answers.
-/
import Derived.Test.YtcjlmdjiddadfaaDrawAtm
import Derived.Test.YtcjlmdjiddadfaaImpA
import Derived.Test.YtcjlmdjiddadfaaCrOkM
import Derived.Test.YtcjlmdjiddadfaaTypedL
import Derived.Test.YtcjlmdjiddadfaaDrawReqB
namespace Go.Proofs.Ytcjlmdjiddadfaa
open Go.RowKit
set_option linter.unusedSimpArgs false
set_option linter.unusedVariables false

namespace fnAtmOk
set_option maxRecDepth 100000 in
set_option maxHeartbeats 2000000 in
theorem draw_any (a : Option Addr) (len cap : Nat) (w : World) (hc : len ≤ cap) (hm : cap ≤ 9223372036854775807) (hb : Bytes w w.heap.size a len) :
    Calls Try.prog 37 #[.slice a len cap] w fun e w' => ∃ (s : Stt) (bw ow cw bh oh ch : Nat), e = .returned (stV s (some ⟨bw, ow, none⟩) cw (some ⟨bh, oh, none⟩) ch) ∧ StAt w' s (some ⟨bw, ow, none⟩) cw (some ⟨bh, oh, none⟩) ch ∧ Below w.heap.size w w' := by
  go_enter Try.func37, Try.ntmps37
  go_wp2_with fail
  refine (open_any a len cap _ hc hm (bytes_alloc hb _)).mono ?_
  rintro e W0 ⟨rfl, hr0, hb0⟩
  have hs0 := hb0.size
  simp only [World.size_alloc] at hs0 hr0 ⊢
  have bR : W0.heap[w.heap.size]? = some (.cells #[.slice none 0 0, .slice none 0 0] 28 (0, 0)) := (hb0.block _ (by simp)).trans (nw_at _ rfl)
  have hw0 : Below w.heap.size w W0 := ((Below.refl _ w).alloc (Nat.le_refl _) _).trans (hb0.mono (by simp))
  obtain ⟨B, eB⟩ : ∃ B, B = w.heap.size + 1 := ⟨_, rfl⟩
  obtain ⟨R, eR⟩ : ∃ R, R = w.heap.size := ⟨_, rfl⟩
  rw [← eB] at hr0 ⊢
  rw [← eR] at bR ⊢
  have hRB : R < B := by omega
  have hRw : w.heap.size ≤ R := by omega
  have hwB : w.heap.size ≤ B := by omega
  have hRl := heap_lt bR
  clear hb0 eB eR
  go_wp2_with fail
  refine (l20Atm_any B 0 2 W0 hr0 (by omega) (by omega) (by omega)).mono ?_
  rintro e w1 ⟨v, rfl, s, b, off, cw, h, oh, ch, p', rfl, hS, _, _, _, _, hK, hb1, hh1⟩
  have bR1 := (hK.block R hRl (by omega)).trans bR
  have hB1 : Below w.heap.size w w1 := hw0.trans (hK.below (n := w.heap.size) hwB (by omega))
  have u0 : w1.cell? ⟨R, 0, none⟩ = some (.slice none 0 0) := heap_cell bR1 0
  have u1 : w1.cell? ⟨R, 1, none⟩ = some (.slice none 0 0) := heap_cell bR1 1
  have v0 := heap_free bR1 0
  have v1 := heap_free bR1 1
  have hf := heap_set (heap_set bR1 0 (.slice (some ⟨b, off, none⟩) s.words.length cw)) 1 (.slice (some ⟨h, oh, none⟩) s.holds.length ch)
  have r0 := heap_cell hf 0
  have r1 := heap_cell hf 1
  simp at r0 r1
  have hne : ∀ z, z ≠ R → ((w1.setCell ⟨R, 0, none⟩ (.slice (some ⟨b, off, none⟩) s.words.length cw)).setCell ⟨R, 1, none⟩ (.slice (some ⟨h, oh, none⟩) s.holds.length ch)).heap[z]? = w1.heap[z]? := fun z h1 => (heap_set_ne h1).trans (heap_set_ne h1)
  have HS : Hid (StAt ((w1.setCell ⟨R, 0, none⟩ (.slice (some ⟨b, off, none⟩) s.words.length cw)).setCell ⟨R, 1, none⟩ (.slice (some ⟨h, oh, none⟩) s.holds.length ch)) s (some ⟨b, off, none⟩) cw (some ⟨h, oh, none⟩) ch) := ⟨hS.words.of (by simp) (fun z o e _ => by cases e; exact hne _ (by omega)), hS.holds.of (by simp) (fun z o e _ => by cases e; exact hne _ (by omega)), hS.cw1, hS.cw2, hS.ch1, hS.ch2⟩
  have HB : Hid (Below w.heap.size w ((w1.setCell ⟨R, 0, none⟩ (.slice (some ⟨b, off, none⟩) s.words.length cw)).setCell ⟨R, 1, none⟩ (.slice (some ⟨h, oh, none⟩) s.holds.length ch))) := (hB1.setCell (p := ⟨R, 0, none⟩) hRw _).setCell (p := ⟨R, 1, none⟩) hRw _
  clear hf hne hS hK hB1 bR bR1
  unfold stV
  go_wp2
  refine bodyPost_ret (v := .agg #[.slice (some ⟨b, off, none⟩) s.words.length cw, .slice (some ⟨h, oh, none⟩) s.holds.length ch]) (by simp [results, Try.results37, go_sem, r0, r1]) rfl ⟨s, b, off, cw, h, oh, ch, rfl, HS.out, HB.out⟩

/-- a row of one -/
def kOne (v : Int) : World → Value → Prop := fun w x => ∃ g, x = .slice (some ⟨g, 0, none⟩) 1 1 ∧ g < w.heap.size ∧ w.cell? ⟨g, 0, none⟩ = some (.int .i64 v)
/-- a row of its own -/
def kRowX (l : List Int) : World → Value → Prop := fun w x => ∃ g c, x = .slice (some ⟨g, 0, none⟩) l.length c ∧ IntsAt w (some ⟨g, 0, none⟩) l ∧ l.length ≤ c ∧ c ≤ 9223372036854775807
def kAggX (u : Value) (l : List Int) : World → Value → Prop := fun w x => ∃ g c, x = .agg #[u, .slice (some ⟨g, 0, none⟩) l.length c] ∧ IntsAt w (some ⟨g, 0, none⟩) l ∧ l.length ≤ c ∧ c ≤ 9223372036854775807
/-- a new variable -/
def kNew (M : Nat) : World → Value → Prop := fun w x => ∃ b, x = .pointer (some ⟨b, 0, none⟩) ∧ M ≤ b ∧ w.heap[b]? = some (.cells #[.slice none 0 0, .slice none 0 0] 28 (0, 0))
theorem stable_one {v : Int} {w w' : World} {x : Value} (hr : Gr w w') (h : kOne v w x) : kOne v w' x := by
  obtain ⟨g, h1, h2, h3⟩ := h
  exact ⟨g, h1, Nat.lt_of_lt_of_le h2 hr.size, (hr.cell (p := ⟨g, 0, none⟩) h2).trans h3⟩
theorem stable_row {l : List Int} {w w' : World} {x : Value} (hr : Gr w w') (h : kRowX l w x) : kRowX l w' x := by
  obtain ⟨g, c, h1, h2, h3⟩ := h
  exact ⟨g, c, h1, h2.below hr, h3⟩
theorem stable_agg {u : Value} {l : List Int} {w w' : World} {x : Value} (hr : Gr w w') (h : kAggX u l w x) : kAggX u l w' x := by
  obtain ⟨g, c, h1, h2, h3⟩ := h
  exact ⟨g, c, h1, h2.below hr, h3⟩
theorem stable_new {M : Nat} {w w' : World} {x : Value} (hr : Gr w w') (h : kNew M w x) : kNew M w' x := by
  obtain ⟨b, h1, h2, h3⟩ := h
  exact ⟨b, h1, h2, (hr.block b (heap_lt h3)).trans h3⟩

def kAN : World → Value → Prop := fun W v => ∃ g g', v = .agg #[.slice (some ⟨g, 0, none⟩) 64 64, .slice (some ⟨g', 0, none⟩) 6 6] ∧ IntsAt W (some ⟨g', 0, none⟩) (freeH 6)
theorem stable_AN {w w' : World} {x : Value} (hr : Gr w w') (h : kAN w x) : kAN w' x := by
  obtain ⟨g, g', h1, h2⟩ := h
  exact ⟨g, g', h1, h2.below hr⟩

theorem app_grow {ρ : Operand → Value} {o : Oper} {w : World} {s x g b off n c : Nat} {v : Int} {ys : List Int}
    (ho : o.op = .call { callee := .builtin .append, args := #[.tmp s, .tmp x], argTypes := #[24, 24] })
    (hs : ρ (.tmp s) = .slice (some ⟨g, 0, none⟩) 1 1) (hc : w.cell? ⟨g, 0, none⟩ = some (.int .i64 v)) (hx : ρ (.tmp x) = .slice (some ⟨b, off, none⟩) n c) (hy : IntsAt w (some ⟨b, off, none⟩) ys) (hl : ys.length = n) (hn : 1 ≤ n) (hn2 : n ≤ 100) {w5 : World} (hW : Below w5.heap.size w5 w) {L : List Int} (hL : L = v :: ys) :
    ∃ u w', (execOp ρ o).run Try.prog w = .ok (.value u) w' ∧ Below w5.heap.size w5 w' ∧ Gr w w' ∧ kRowX L w' u := by
  subst hL
  obtain ⟨i0, hi, hz0, hz1, hz2⟩ := info_parts Try.infoInt
  have hadd : ∀ (b off j : Nat), (⟨b, off, none⟩ : Addr).add j = ⟨b, off + j, none⟩ := fun b off j => by unfold Addr.add; split <;> simp_all
  obtain ⟨v', w', hrun, r1, r2⟩ := run_append_arg_grows (P := Try.prog) w 24 o.type 3 i0 _ 1 8 Try.underlying24 hi hz0 hz1 hz2 rfl (by omega) ⟨g, 0, none⟩ 1 1 [.int .i64 v] rfl (fun j u hj => by
      have : j = 0 := by
        have := (List.getElem?_eq_some_iff.1 hj).1
        simp at this; omega
      subst this
      simp at hj
      rw [hadd, ← hj]; exact hc) ⟨b, off, none⟩ n c (ys.map (Value.int .i64)) (by simp [hl]) (fun j u hj => by
      have hlt : j < ys.length := by have := (List.getElem?_eq_some_iff.1 hj).1; simpa using this
      rcases hy with h | ⟨b', off', e, h2, h3⟩
      · subst h; simp at hlt
      · cases e
        rw [hadd, h3 j hlt]
        simpa [hlt] using hj) (by omega) (by unfold maxLen; omega) (by omega)
  obtain ⟨hlen, hn0 | ⟨g', cap', cur', hv, k1, k2, k3, k4, k5, k6⟩⟩ := r1
  · omega
  subst hv
  have hG : Below w.heap.size w w' := ⟨r2.os, r2.tape, r2.output, r2.size, fun z hz => r2.block z hz (by simp)⟩
  have hO : ORow 3 1 w' g' cap' (v :: ys).length ((v :: ys).map (Value.int .i64)) := by
    refine ⟨cur', k2, k5, by simp; omega, by simp, ?_⟩
    have e : (v :: ys).length * 1 = (1 + n) * 1 := by simp; omega
    rw [e]
    simpa using k6
  refine ⟨.slice (some ⟨g', 0, none⟩) (1 + n) cap', w', ?_, hW.trans (hG.mono hW.size), hG, ⟨g', cap', by simp [hl, Nat.add_comm], hO.ints, by simp; omega, by unfold maxLen at k4; omega⟩⟩
  unfold execOp
  simp only [ho, resolve, invoke, builtin, Sem.run_bind, Sem.run_pure, Result.andThen_ok, List.map_toArray, List.map_cons, List.map_nil, hs, hx, hrun]


set_option maxRecDepth 100000 in
set_option maxHeartbeats 8000000 in
theorem walkC_FnAtmOk (hI : AtmOkC) (a : Option Addr) (len cap : Nat) (w : World) (hc : len ≤ cap) (hm : cap ≤ 9223372036854775807) (hb : Bytes w w.heap.size a len) :
    Calls Try.prog 11 #[.slice a len cap] w fun e w' => e = .returned (.bool true) ∧ Below w.heap.size w w' := by
  by_cases hl : 1048576 < len
  · have hI1 : (1048576 : Int) < (len : Int) := by omega
    clear hb
    go_enter Try.func11, Try.ntmps11
    go_wp2
    go_ret
    exact ⟨rfl, Below.refl _ _⟩
  have hI1 : ¬ (1048576 : Int) < (len : Int) := by omega
  have HBy := Hid.intro hb
  have HC := Hid.intro hI
  clear hb hI
  go_enter Try.func11, Try.ntmps11
  go_wp2_with fail
  refine (draw_any a len cap w hc hm HBy.out).mono ?_
  rintro e w1 ⟨s, bw, ow, cw, bh, oh, ch, rfl, hS, hB1⟩
  clear HBy
  have HS1 := Hid.intro hS
  clear hS
  unfold stV
  go_wp2_with fail
  refine (HC.out s _ _ cw ch _ (HS1.out.below (below_nw _ _))).mono ?_
  rintro e w2 ⟨rfl, hb2⟩
  have hg2 : Below w1.heap.size w1 w2 := Below.trans (below_nw w1 _) (hb2.mono (by simp))
  have hs2 := hb2.size
  simp only [World.size_alloc] at hs2
  have HS2 := Hid.intro (HS1.out.below hg2)
  have hB2 := hB1.trans (hg2.mono hB1.size)
  have bS : w2.heap[w1.heap.size]? = some (.cells #[.slice (some ⟨bw, ow, none⟩) s.words.length cw, .slice (some ⟨bh, oh, none⟩) s.holds.length ch] 28 (0, 0)) := (hb2.block _ (by simp)).trans (nw_at _ rfl)
  obtain ⟨S, eS⟩ : ∃ v, v = w1.heap.size := ⟨_, rfl⟩
  rw [← eS] at bS ⊢
  have lS2 : S < w2.heap.size := by omega
  have BS2 := Hid.intro bS
  clear HS1 hB1 bS eS hb2 hg2 hs2
  have cS0 : w2.cell? ⟨S, 0, none⟩ = some (.slice (some ⟨bw, ow, none⟩) s.words.length cw) := heap_cell BS2.out 0
  have cS1 : w2.cell? ⟨S, 1, none⟩ = some (.slice (some ⟨bh, oh, none⟩) s.holds.length ch) := heap_cell BS2.out 1
  go_wp2_with fail
  refine (spec_AtmOk s _ _ cw ch w2 HS2.out).mono ?_
  rintro e w3 ⟨rfl, hb3⟩
  have hg3 := hb3
  have hs3 := hb3.size
  have BS3 := Hid.intro ((hg3.block S lS2).trans BS2.out)
  have HS3 := Hid.intro (HS2.out.below hg3)
  have hB3 := hB2.trans (hg3.mono hB2.size)
  have lS3 : S < w3.heap.size := by omega
  clear BS2 lS2 HS2 hB2 hb3 hg3 hs3 cS0 cS1
  cases eok : stOkB s
  · go_wp2_with (go_at_call 26; refine (crOk_any _).mono ?_; rintro e w' ⟨rfl, rfl⟩)
    go_ret
    exact ⟨rfl, hB3⟩
  have hok := (stOk_iff s).1 eok
  have h6 := hok.2.1
  have HOK := Hid.intro hok
  clear hok
  have hStw3 := HS3.out
  have hSl := lS3
  have BS0 := BS3.out
  rw [h6] at BS0
  have BS := Hid.intro BS0
  have BSw3 := BS
  have hch := hStw3.ch1
  rw [h6] at hch
  have hch2 : ¬ ch = 1 := by omega
  have hdr : (s.holds.drop 1).length = 5 := by simp [h6]
  clear BS3 BS0
  obtain ⟨L1, eL1⟩ : ∃ l, l = 64 :: s.holds.drop 1 := ⟨_, rfl⟩
  obtain ⟨L2, eL2⟩ : ∃ l, l = -1 :: s.holds := ⟨_, rfl⟩
  obtain ⟨L3, eL3⟩ : ∃ l, l = freeH 6 := ⟨_, rfl⟩
  have kL1 : L1 ≠ [] := by rw [eL1]; simp
  have kL2 : L2 ≠ [] := by rw [eL2]; simp
  have kL3 : L3 ≠ [] := by rw [eL3]; simp [freeH]
  have EL1 := Hid.intro eL1
  have EL2 := Hid.intro eL2
  have EL3 := Hid.intro eL3
  clear eL1 eL2 eL3
  go_wp2_with fail
  refine wp_region_then (by kernel_rfl) Gr (fun _ W => Below w3.heap.size w3 W)
    (tab [(22, kIs (.pointer (some ⟨S, 0, none⟩))), (23, kIs (.agg #[.slice (some ⟨bw, ow, none⟩) s.words.length cw])), (24, kOne (64)), (25, kIs (.pointer (some ⟨S, 1, none⟩))), (26, kIs (.slice (some ⟨bh, oh, none⟩) 6 ch)), (27, kIs (.slice (some ⟨bh, oh + 1, none⟩) 5 (ch - 1))), (28, kRowX (L1)), (29, kAggX (.slice (some ⟨bw, ow, none⟩) s.words.length cw) (L1)), (5, kNew w3.heap.size)]) 9 _ [22, 23, 24, 25, 26, 27, 28, 29, 5] rfl rfl (by kernel_rfl) (by kernel_rfl) rfl (by kernel_rfl) ?_ ?_ ?_ ?_
  · refine tabR_stable ?_
    intro y hy
    simp only [List.mem_cons, List.not_mem_nil, or_false] at hy
    rcases hy with rfl | rfl | rfl | rfl | rfl | rfl | rfl | rfl | rfl
    all_goals intro w w' v hr hv
    all_goals first | exact hv | exact stable_one hr hv | exact stable_row hr hv | exact stable_agg hr hv | exact stable_new hr hv
  · exact (Below.refl _ _).drew
  · skip
    refine ops_cons (gd rfl <| tx_pure rfl rfl (fun _ _ h => h) Gr.refl (fun _ ρ W hat hW => ?_)) ?_
    · have e2 := hat.out 3 (by kernel_rfl)
      simp [Act.eval] at e2
      simp only [execOp, e2]; go_simp
    refine ops_cons (gd rfl <| tx_pure rfl rfl (fun _ _ h => h) Gr.refl (fun _ ρ W hat hW => ?_)) ?_
    · have bW := (hW.block S hSl).trans BS.out
      have cW : W.cell? ⟨S, 0, none⟩ = some (.slice (some ⟨bw, ow, none⟩) s.words.length cw) := heap_cell bW 0
      have e1 : ρ (.tmp 22) = _ := hat.dep 22 (by kernel_rfl)
      clear bW
      simp only [execOp, e1]; go_simp
    refine ops_cons (gd rfl <| tx_val rfl (fun _ ρ W _ hat hW => ?_)) ?_
    · refine ⟨.slice (some ⟨W.heap.size, 0, none⟩) 1 1, W.alloc (.cells #[.int .i64 (64)] 3), ?_, hW.trans (((Below.refl _ W).alloc (Nat.le_refl _) _).mono hW.size), (Below.refl _ W).alloc (Nat.le_refl _) _, W.heap.size, rfl, by simp, by simp⟩
      have hcon := hat.con
      simp only [execOp, hcon]; go_simp
    refine ops_cons (gd rfl <| tx_pure rfl rfl (fun _ _ h => h) Gr.refl (fun _ ρ W hat hW => ?_)) ?_
    · have e2 := hat.out 3 (by kernel_rfl)
      simp [Act.eval] at e2
      simp only [execOp, e2]; go_simp
    refine ops_cons (gd rfl <| tx_pure rfl rfl (fun _ _ h => h) Gr.refl (fun _ ρ W hat hW => ?_)) ?_
    · have bW := (hW.block S hSl).trans BS.out
      have cW : W.cell? ⟨S, 1, none⟩ = some (.slice (some ⟨bh, oh, none⟩) 6 ch) := heap_cell bW 1
      have e1 : ρ (.tmp 25) = _ := hat.dep 25 (by kernel_rfl)
      clear bW
      simp only [execOp, e1]; go_simp
    refine ops_cons (gd rfl <| tx_pure rfl rfl (fun _ _ h => h) Gr.refl (fun _ ρ W hat hW => ?_)) ?_
    · have hcon := hat.con
      have e1 : ρ (.tmp 26) = _ := hat.dep 26 (by kernel_rfl)
      simp only [execOp, hcon, e1]; go_simp
    refine ops_cons (gd rfl <| tx_val rfl (fun _ ρ W _ hat hW => ?_)) ?_
    · obtain ⟨g1, e1, _, hc1⟩ : kOne (64) W (ρ (.tmp 24)) := hat.dep 24 (by kernel_rfl)
      have e2 : ρ (.tmp 27) = _ := hat.dep 27 (by kernel_rfl)
      exact app_grow rfl e1 hc1 e2 ((hStw3.holds.drop 1).below hW) hdr (by omega) (by omega) hW EL1.out
    refine ops_cons (gd rfl <| tx_val rfl (fun _ ρ W _ hat hW => ?_)) ?_
    · have e1 : ρ (.tmp 23) = _ := hat.dep 23 (by kernel_rfl)
      obtain ⟨g1, c9, e3, h4⟩ : kRowX (L1) W (ρ (.tmp 28)) := hat.dep 28 (by kernel_rfl)
      refine ⟨.agg #[.slice (some ⟨bw, ow, none⟩) s.words.length cw, .slice (some ⟨g1, 0, none⟩) (L1).length c9], W, ?_, hW, Gr.refl W, g1, c9, rfl, h4⟩
      simp only [execOp, e1, e3]; go_simp
    refine ops_cons (gd rfl <| tx_val rfl (fun _ ρ W _ hat hW => ?_)) ?_
    · refine ⟨.pointer (some ⟨W.heap.size, 0, none⟩), W.alloc (.cells #[.slice none 0 0, .slice none 0 0] 28), ?_, hW.trans (((Below.refl _ W).alloc (Nat.le_refl _) _).mono hW.size), (Below.refl _ W).alloc (Nat.le_refl _) _, W.heap.size, rfl, hW.size, nw_at _ rfl⟩
      simp only [execOp]; go_simp
    exact ops_nil
  · intro f W hW hf
    obtain ⟨bX, eb, hM, hbx⟩ : kNew w3.heap.size W (f 5) := hf 5 (by simp)
    obtain ⟨gX, cX, eg, hi, hc1, hc2⟩ : kAggX (.slice (some ⟨bw, ow, none⟩) s.words.length cw) (L1) W (f 29) := hf 29 (by simp)
    clear hf
    have q0 : W.cell? ⟨bX, 0, none⟩ = some (.slice none 0 0) := heap_cell hbx 0
    have q1 : W.cell? ⟨bX, 1, none⟩ = some (.slice none 0 0) := heap_cell hbx 1
    have f0 := heap_free hbx 0
    have f1 := heap_free hbx 1
    have hgb : gX ≠ bX := by
      intro e
      rcases hi with hx | ⟨z, oz, ez, hz, hcz⟩
      · exact kL1 hx
      · cases ez
        have := hcz 0 (List.length_pos_iff.2 kL1)
        rw [e, Nat.zero_add, q0] at this
        cases this
    obtain ⟨w4, hnw4⟩ : ∃ v, ((W.setCell ⟨bX, 0, none⟩ (.slice (some ⟨bw, ow, none⟩) s.words.length cw)).setCell ⟨bX, 1, none⟩ (.slice (some ⟨gX, 0, none⟩) (L1).length cX)) = v := ⟨_, rfl⟩
    have hbw4 := heap_set (heap_set hbx 0 (.slice (some ⟨bw, ow, none⟩) s.words.length cw)) 1 (.slice (some ⟨gX, 0, none⟩) (L1).length cX)
    rw [hnw4] at hbw4
    simp at hbw4
    have hG : Below w3.heap.size w3 w4 := by rw [← hnw4]; exact (hW.setCell (p := ⟨bX, 0, none⟩) hM _).setCell (p := ⟨bX, 1, none⟩) hM _
    have hi2 : IntsAt w4 (some ⟨gX, 0, none⟩) (L1) := hi.of (by rw [← hnw4]; simp) (fun z oz e _ => by cases e; rw [← hnw4]; exact (heap_set_ne hgb).trans (heap_set_ne hgb))
    have hStw4 := hStw3.below hG
    have BSw4 := Hid.intro ((hG.block S hSl).trans BSw3.out)
    have hSlw4 := Nat.lt_of_lt_of_le hSl hG.size
    have hBbX := Hid.intro hbw4
    have HiX := Hid.intro hi2
    have hBw4 := hB3.trans (hG.mono hB3.size)
    have hcXX := Hid.intro hc1
    have hcYX := Hid.intro hc2
    simp only [fill, eb, eg]
    go_simp
    go_wp2_with fail
    first | rw [hnw4] | skip
    clear hc1 hc2 hi hi2 hbx q0 q1 f0 f1 hM hgb eb eg
    clear hnw4 hG hW
    refine wp_region_then (by kernel_rfl) Gr (fun _ W => Below w4.heap.size w4 W)
      (tab [(30, kIs (.pointer (some ⟨S, 0, none⟩))), (31, kIs (.agg #[.slice (some ⟨bw, ow, none⟩) s.words.length cw])), (32, kOne (-1)), (33, kIs (.pointer (some ⟨S, 1, none⟩))), (34, kIs (.slice (some ⟨bh, oh, none⟩) 6 ch)), (35, kRowX (L2)), (36, kAggX (.slice (some ⟨bw, ow, none⟩) s.words.length cw) (L2)), (6, kNew w4.heap.size)]) 8 _ [30, 31, 32, 33, 34, 35, 36, 6] rfl rfl (by kernel_rfl) (by kernel_rfl) rfl (by kernel_rfl) ?_ ?_ ?_ ?_
    · refine tabR_stable ?_
      intro y hy
      simp only [List.mem_cons, List.not_mem_nil, or_false] at hy
      rcases hy with rfl | rfl | rfl | rfl | rfl | rfl | rfl | rfl
      all_goals intro w w' v hr hv
      all_goals first | exact hv | exact stable_one hr hv | exact stable_row hr hv | exact stable_agg hr hv | exact stable_new hr hv
    · exact (Below.refl _ _).drew
    · skip
      refine ops_cons (gd rfl <| tx_pure rfl rfl (fun _ _ h => h) Gr.refl (fun _ ρ W hat hW => ?_)) ?_
      · have e2 := hat.out 3 (by kernel_rfl)
        simp [Act.eval] at e2
        simp only [execOp, e2]; go_simp
      refine ops_cons (gd rfl <| tx_pure rfl rfl (fun _ _ h => h) Gr.refl (fun _ ρ W hat hW => ?_)) ?_
      · have bW := (hW.block S hSlw4).trans BSw4.out
        have cW : W.cell? ⟨S, 0, none⟩ = some (.slice (some ⟨bw, ow, none⟩) s.words.length cw) := heap_cell bW 0
        have e1 : ρ (.tmp 30) = _ := hat.dep 30 (by kernel_rfl)
        clear bW
        simp only [execOp, e1]; go_simp
      refine ops_cons (gd rfl <| tx_val rfl (fun _ ρ W _ hat hW => ?_)) ?_
      · refine ⟨.slice (some ⟨W.heap.size, 0, none⟩) 1 1, W.alloc (.cells #[.int .i64 (-1)] 3), ?_, hW.trans (((Below.refl _ W).alloc (Nat.le_refl _) _).mono hW.size), (Below.refl _ W).alloc (Nat.le_refl _) _, W.heap.size, rfl, by simp, by simp⟩
        have hcon := hat.con
        simp only [execOp, hcon]; go_simp
      refine ops_cons (gd rfl <| tx_pure rfl rfl (fun _ _ h => h) Gr.refl (fun _ ρ W hat hW => ?_)) ?_
      · have e2 := hat.out 3 (by kernel_rfl)
        simp [Act.eval] at e2
        simp only [execOp, e2]; go_simp
      refine ops_cons (gd rfl <| tx_pure rfl rfl (fun _ _ h => h) Gr.refl (fun _ ρ W hat hW => ?_)) ?_
      · have bW := (hW.block S hSlw4).trans BSw4.out
        have cW : W.cell? ⟨S, 1, none⟩ = some (.slice (some ⟨bh, oh, none⟩) 6 ch) := heap_cell bW 1
        have e1 : ρ (.tmp 33) = _ := hat.dep 33 (by kernel_rfl)
        clear bW
        simp only [execOp, e1]; go_simp
      refine ops_cons (gd rfl <| tx_val rfl (fun _ ρ W _ hat hW => ?_)) ?_
      · obtain ⟨g1, e1, _, hc1⟩ : kOne (-1) W (ρ (.tmp 32)) := hat.dep 32 (by kernel_rfl)
        have e2 : ρ (.tmp 34) = _ := hat.dep 34 (by kernel_rfl)
        exact app_grow rfl e1 hc1 e2 ((hStw4.holds).below hW) h6 (by omega) (by omega) hW EL2.out
      refine ops_cons (gd rfl <| tx_val rfl (fun _ ρ W _ hat hW => ?_)) ?_
      · have e1 : ρ (.tmp 31) = _ := hat.dep 31 (by kernel_rfl)
        obtain ⟨g1, c9, e3, h4⟩ : kRowX (L2) W (ρ (.tmp 35)) := hat.dep 35 (by kernel_rfl)
        refine ⟨.agg #[.slice (some ⟨bw, ow, none⟩) s.words.length cw, .slice (some ⟨g1, 0, none⟩) (L2).length c9], W, ?_, hW, Gr.refl W, g1, c9, rfl, h4⟩
        simp only [execOp, e1, e3]; go_simp
      refine ops_cons (gd rfl <| tx_val rfl (fun _ ρ W _ hat hW => ?_)) ?_
      · refine ⟨.pointer (some ⟨W.heap.size, 0, none⟩), W.alloc (.cells #[.slice none 0 0, .slice none 0 0] 28), ?_, hW.trans (((Below.refl _ W).alloc (Nat.le_refl _) _).mono hW.size), (Below.refl _ W).alloc (Nat.le_refl _) _, W.heap.size, rfl, hW.size, nw_at _ rfl⟩
        simp only [execOp]; go_simp
      exact ops_nil
    · intro f W hW hf
      obtain ⟨bY, eb, hM, hbx⟩ : kNew w4.heap.size W (f 6) := hf 6 (by simp)
      obtain ⟨gY, cY, eg, hi, hc1, hc2⟩ : kAggX (.slice (some ⟨bw, ow, none⟩) s.words.length cw) (L2) W (f 36) := hf 36 (by simp)
      clear hf
      have q0 : W.cell? ⟨bY, 0, none⟩ = some (.slice none 0 0) := heap_cell hbx 0
      have q1 : W.cell? ⟨bY, 1, none⟩ = some (.slice none 0 0) := heap_cell hbx 1
      have f0 := heap_free hbx 0
      have f1 := heap_free hbx 1
      have hgb : gY ≠ bY := by
        intro e
        rcases hi with hx | ⟨z, oz, ez, hz, hcz⟩
        · exact kL2 hx
        · cases ez
          have := hcz 0 (List.length_pos_iff.2 kL2)
          rw [e, Nat.zero_add, q0] at this
          cases this
      obtain ⟨w5, hnw5⟩ : ∃ v, ((W.setCell ⟨bY, 0, none⟩ (.slice (some ⟨bw, ow, none⟩) s.words.length cw)).setCell ⟨bY, 1, none⟩ (.slice (some ⟨gY, 0, none⟩) (L2).length cY)) = v := ⟨_, rfl⟩
      have hbw5 := heap_set (heap_set hbx 0 (.slice (some ⟨bw, ow, none⟩) s.words.length cw)) 1 (.slice (some ⟨gY, 0, none⟩) (L2).length cY)
      rw [hnw5] at hbw5
      simp at hbw5
      have hG : Below w4.heap.size w4 w5 := by rw [← hnw5]; exact (hW.setCell (p := ⟨bY, 0, none⟩) hM _).setCell (p := ⟨bY, 1, none⟩) hM _
      have hi2 : IntsAt w5 (some ⟨gY, 0, none⟩) (L2) := hi.of (by rw [← hnw5]; simp) (fun z oz e _ => by cases e; rw [← hnw5]; exact (heap_set_ne hgb).trans (heap_set_ne hgb))
      have hStw5 := hStw4.below hG
      have BSw5 := Hid.intro ((hG.block S hSlw4).trans BSw4.out)
      have hSlw5 := Nat.lt_of_lt_of_le hSlw4 hG.size
      have hBbY := Hid.intro hbw5
      have HiY := Hid.intro hi2
      have hBbX := Hid.intro ((hG.block bX (heap_lt hBbX.out)).trans hBbX.out)
      have HiX := Hid.intro (HiX.out.below hG)
      have hBw5 := hBw4.trans (hG.mono hBw4.size)
      have hcXY := Hid.intro hc1
      have hcYY := Hid.intro hc2
      simp only [fill, eb, eg]
      go_simp
      go_wp2_with fail
      first | rw [hnw5] | skip
      clear hc1 hc2 hi hi2 hbx q0 q1 f0 f1 hM hgb eb eg
      clear hnw5 hG hW
      refine wp_region_then (by kernel_rfl) Gr (fun _ W => Below w5.heap.size w5 W)
        (tab [(37, kIs (.pointer (some ⟨S, 0, none⟩))), (38, kIs (.agg #[.slice (some ⟨bw, ow, none⟩) s.words.length cw])), (39, kAN), (40, kRowX (L3)), (41, kAggX (.slice (some ⟨bw, ow, none⟩) s.words.length cw) (L3)), (7, kNew w5.heap.size)]) 6 _ [37, 38, 39, 40, 41, 7] rfl rfl (by kernel_rfl) (by kernel_rfl) rfl (by kernel_rfl) ?_ ?_ ?_ ?_
      · refine tabR_stable ?_
        intro y hy
        simp only [List.mem_cons, List.not_mem_nil, or_false] at hy
        rcases hy with rfl | rfl | rfl | rfl | rfl | rfl
        all_goals intro w w' v hr hv
        all_goals first | exact hv | exact stable_one hr hv | exact stable_row hr hv | exact stable_agg hr hv | exact stable_new hr hv | exact stable_AN hr hv
      · exact (Below.refl _ _).drew
      · skip
        refine ops_cons (gd rfl <| tx_pure rfl rfl (fun _ _ h => h) Gr.refl (fun _ ρ W hat hW => ?_)) ?_
        · have e2 := hat.out 3 (by kernel_rfl)
          simp [Act.eval] at e2
          simp only [execOp, e2]; go_simp
        refine ops_cons (gd rfl <| tx_pure rfl rfl (fun _ _ h => h) Gr.refl (fun _ ρ W hat hW => ?_)) ?_
        · have bW := (hW.block S hSlw5).trans BSw5.out
          have cW : W.cell? ⟨S, 0, none⟩ = some (.slice (some ⟨bw, ow, none⟩) s.words.length cw) := heap_cell bW 0
          have e1 : ρ (.tmp 37) = _ := hat.dep 37 (by kernel_rfl)
          clear bW
          simp only [execOp, e1]; go_simp
        refine ops_cons (gd rfl <| tx_call rfl (fun _ ρ W _ hat hW => ?_)) ?_
        · have hf := hat.fn
          refine ⟨38, #[], by simp only [execOp]; go_simp, ?_⟩
          refine (impl_AtmNew W).mono ?_
          rintro e W' ⟨g1, g2, rfl, _, o2, _, _, _, hb⟩
          exact ⟨_, rfl, hW.trans (hb.mono hW.size), hb, g1, g2, rfl, ORow.ints (l := freeH 6) o2⟩
        refine ops_cons (gd rfl <| tx_val rfl (fun _ ρ W _ hat hW => ?_)) ?_
        · obtain ⟨g1, g2, e1, hi⟩ : kAN W (ρ (.tmp 39)) := hat.dep 39 (by kernel_rfl)
          have hfd : ∀ (W : World) (v : Value), (Instr.field 28 (.agg #[.slice (some ⟨g1, 0, none⟩) 64 64, .slice (some ⟨g2, 0, none⟩) 6 6]) 1).run Try.prog W = .ok (.slice (some ⟨g2, 0, none⟩) 6 6) W := fun _ _ => by kernel_rfl
          exact ⟨.slice (some ⟨g2, 0, none⟩) 6 6, W, by simp only [execOp, e1]; go_simp; rw [hfd _ undef]; rfl, hW, Gr.refl _, g2, 6, by rw [EL3.out]; rfl, by rw [EL3.out]; exact hi, by rw [EL3.out]; simp [freeH], by omega⟩
        refine ops_cons (gd rfl <| tx_val rfl (fun _ ρ W _ hat hW => ?_)) ?_
        · have e1 : ρ (.tmp 38) = _ := hat.dep 38 (by kernel_rfl)
          obtain ⟨g1, c9, e3, h4⟩ : kRowX (L3) W (ρ (.tmp 40)) := hat.dep 40 (by kernel_rfl)
          refine ⟨.agg #[.slice (some ⟨bw, ow, none⟩) s.words.length cw, .slice (some ⟨g1, 0, none⟩) (L3).length c9], W, ?_, hW, Gr.refl W, g1, c9, rfl, h4⟩
          simp only [execOp, e1, e3]; go_simp
        refine ops_cons (gd rfl <| tx_val rfl (fun _ ρ W _ hat hW => ?_)) ?_
        · refine ⟨.pointer (some ⟨W.heap.size, 0, none⟩), W.alloc (.cells #[.slice none 0 0, .slice none 0 0] 28), ?_, hW.trans (((Below.refl _ W).alloc (Nat.le_refl _) _).mono hW.size), (Below.refl _ W).alloc (Nat.le_refl _) _, W.heap.size, rfl, hW.size, nw_at _ rfl⟩
          simp only [execOp]; go_simp
        exact ops_nil
      · intro f W hW hf
        obtain ⟨bZ, eb, hM, hbx⟩ : kNew w5.heap.size W (f 7) := hf 7 (by simp)
        obtain ⟨gZ, cZ, eg, hi, hc1, hc2⟩ : kAggX (.slice (some ⟨bw, ow, none⟩) s.words.length cw) (L3) W (f 41) := hf 41 (by simp)
        clear hf
        have q0 : W.cell? ⟨bZ, 0, none⟩ = some (.slice none 0 0) := heap_cell hbx 0
        have q1 : W.cell? ⟨bZ, 1, none⟩ = some (.slice none 0 0) := heap_cell hbx 1
        have f0 := heap_free hbx 0
        have f1 := heap_free hbx 1
        have hgb : gZ ≠ bZ := by
          intro e
          rcases hi with hx | ⟨z, oz, ez, hz, hcz⟩
          · exact kL3 hx
          · cases ez
            have := hcz 0 (List.length_pos_iff.2 kL3)
            rw [e, Nat.zero_add, q0] at this
            cases this
        obtain ⟨w6, hnw6⟩ : ∃ v, ((W.setCell ⟨bZ, 0, none⟩ (.slice (some ⟨bw, ow, none⟩) s.words.length cw)).setCell ⟨bZ, 1, none⟩ (.slice (some ⟨gZ, 0, none⟩) (L3).length cZ)) = v := ⟨_, rfl⟩
        have hbw6 := heap_set (heap_set hbx 0 (.slice (some ⟨bw, ow, none⟩) s.words.length cw)) 1 (.slice (some ⟨gZ, 0, none⟩) (L3).length cZ)
        rw [hnw6] at hbw6
        simp at hbw6
        have hG : Below w5.heap.size w5 w6 := by rw [← hnw6]; exact (hW.setCell (p := ⟨bZ, 0, none⟩) hM _).setCell (p := ⟨bZ, 1, none⟩) hM _
        have hi2 : IntsAt w6 (some ⟨gZ, 0, none⟩) (L3) := hi.of (by rw [← hnw6]; simp) (fun z oz e _ => by cases e; rw [← hnw6]; exact (heap_set_ne hgb).trans (heap_set_ne hgb))
        have hStw6 := hStw5.below hG
        have BSw6 := Hid.intro ((hG.block S hSlw5).trans BSw5.out)
        have hSlw6 := Nat.lt_of_lt_of_le hSlw5 hG.size
        have hBbZ := Hid.intro hbw6
        have HiZ := Hid.intro hi2
        have hBbX := Hid.intro ((hG.block bX (heap_lt hBbX.out)).trans hBbX.out)
        have HiX := Hid.intro (HiX.out.below hG)
        have hBbY := Hid.intro ((hG.block bY (heap_lt hBbY.out)).trans hBbY.out)
        have HiY := Hid.intro (HiY.out.below hG)
        have hBw6 := hBw5.trans (hG.mono hBw5.size)
        have hcXZ := Hid.intro hc1
        have hcYZ := Hid.intro hc2
        have y0 : w6.cell? ⟨bX, 0, none⟩ = some (.slice (some ⟨bw, ow, none⟩) s.words.length cw) := heap_cell hBbX.out 0
        have y1 : w6.cell? ⟨bX, 1, none⟩ = some (.slice (some ⟨gX, 0, none⟩) L1.length cX) := heap_cell hBbX.out 1
        simp only [fill, eb, eg]
        go_simp
        go_wp2_with fail
        first | rw [hnw6] | skip
        clear hc1 hc2 hi hi2 hbx q0 q1 f0 f1 hM hgb eb eg
        have kx : stOkB ⟨s.words, L1⟩ = false := by rw [EL1.out]; simp [stOkB, allIn, inB]
        have ky : stOkB ⟨s.words, L2⟩ = false := by rw [EL2.out]; simp [stOkB, h6]
        have kz : stOkB ⟨s.words, L3⟩ = true := by rw [EL3.out, stOk_iff]; exact ⟨HOK.out.1, by simp [freeH], by simp [freeH]⟩
        have KX := Hid.intro kx
        have KY := Hid.intro ky
        have KZ := Hid.intro kz
        clear kx ky kz hnw6 hG hW y0 y1
        have t1 : StAt w6 ⟨s.words, L1⟩ (some ⟨bw, ow, none⟩) cw (some ⟨gX, 0, none⟩) cX := ⟨hStw6.words, HiX.out, hStw6.cw1, hStw6.cw2, hcXX.out, hcYX.out⟩
        refine (HC.out ⟨s.words, L1⟩ (some ⟨bw, ow, none⟩) (some ⟨gX, 0, none⟩) cw cX w6 t1).mono ?_
        rintro e w7 ⟨rfl, hb7⟩
        rw [KX.out]
        have y0 : w7.cell? ⟨bY, 0, none⟩ = some (.slice (some ⟨bw, ow, none⟩) s.words.length cw) := heap_cell ((hb7.block bY (heap_lt hBbY.out)).trans hBbY.out) 0
        have y1 : w7.cell? ⟨bY, 1, none⟩ = some (.slice (some ⟨gY, 0, none⟩) L2.length cY) := heap_cell ((hb7.block bY (heap_lt hBbY.out)).trans hBbY.out) 1
        have t2 : StAt w6 ⟨s.words, L2⟩ (some ⟨bw, ow, none⟩) cw (some ⟨gY, 0, none⟩) cY := ⟨hStw6.words, HiY.out, hStw6.cw1, hStw6.cw2, hcXY.out, hcYY.out⟩
        have t3 : StAt w6 ⟨s.words, L3⟩ (some ⟨bw, ow, none⟩) cw (some ⟨gZ, 0, none⟩) cZ := ⟨hStw6.words, HiZ.out, hStw6.cw1, hStw6.cw2, hcXZ.out, hcYZ.out⟩
        have T2 := Hid.intro (t2.below hb7)
        have T3 := Hid.intro (t3.below hb7)
        have HZ7 := Hid.intro ((hb7.block bZ (heap_lt hBbZ.out)).trans hBbZ.out)
        have hB7 := hBw6.trans (hb7.mono hBw6.size)
        clear hb7 t1 t2 t3
        go_wp2_with fail
        refine (HC.out ⟨s.words, L2⟩ (some ⟨bw, ow, none⟩) (some ⟨gY, 0, none⟩) cw cY w7 T2.out).mono ?_
        rintro e w8 ⟨rfl, hb8⟩
        rw [KY.out]
        have z0 : w8.cell? ⟨bZ, 0, none⟩ = some (.slice (some ⟨bw, ow, none⟩) s.words.length cw) := heap_cell ((hb8.block bZ (heap_lt HZ7.out)).trans HZ7.out) 0
        have z1 : w8.cell? ⟨bZ, 1, none⟩ = some (.slice (some ⟨gZ, 0, none⟩) L3.length cZ) := heap_cell ((hb8.block bZ (heap_lt HZ7.out)).trans HZ7.out) 1
        have T8 := Hid.intro (T3.out.below hb8)
        have hB8 := hB7.trans (hb8.mono hB7.size)
        clear hb8 y0 y1
        go_wp2_with fail
        refine (HC.out ⟨s.words, L3⟩ (some ⟨bw, ow, none⟩) (some ⟨gZ, 0, none⟩) cw cZ w8 T8.out).mono ?_
        rintro e w9 ⟨rfl, hb9⟩
        rw [KZ.out]
        have hB9 := hB8.trans (hb9.mono hB8.size)
        clear hb9
        go_wp2
        go_ret
        exact ⟨rfl, hB9⟩

end fnAtmOk

end Go.Proofs.Ytcjlmdjiddadfaa
