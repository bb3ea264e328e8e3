/-
  The law FnExactAtmOk, walked, by what AtmOk of the program answers.
-/
import Derived.Test.YtcjlmdjiddadfaaRows
import Derived.Test.YtcjlmdjiddadfaaAtmM
import Derived.Test.YtcjlmdjiddadfaaOpenI
import Derived.Test.YtcjlmdjiddadfaaOpsX
namespace Go.Proofs.Ytcjlmdjiddadfaa
open Go.ChangeShapes Go.WideShapes Go.ChangeAt Go.RowKit Go.Deep Go.Joins
set_option linter.unusedVariables false
set_option linter.unusedSimpArgs false

set_option maxRecDepth 100000 in
theorem open_atm {H : Type} {enc : TypeId × Value → H} {W : World} {r : Reach} {b0 : Nat} {v : Value} {d : DataW H} {p : List MemPlace} (hv : Value.okWide Try.prog W r b0 66 v) (h : DataW.Trod enc Try.prog W 0 (fun _ => true) true 66 v d p) :
    ∃ (s : Stt) (pw ph : Option Addr) (cw ch : Nat), v = stV s pw cw ph ch ∧ StAt W s pw cw ph ch := by
  obtain ⟨v0, v1, y0, y1, n, rfl, _, _, t0, t1⟩ := open_agg2 Try.underlying66 (by kernel_rfl) (by kernel_rfl) hv h
  obtain ⟨y2, n2, hx, _, t2⟩ := trod_struct1 Try.underlying64 t0
  have t2 : DataW.trod enc Try.prog W 0 (fun _ => true) true n2 24 [v0] = some y2 := t2
  obtain ⟨pw, xs, cw, rfl, i1, a1, b1⟩ := open_intsV t2
  obtain ⟨ph, ys, ch, rfl, i2, a2, b2⟩ := open_intsV t1
  exact ⟨⟨xs, ys⟩, pw, ph, cw, ch, rfl, i1, i2, a1, b1, a2, b2⟩

namespace fnExactAtmOk

/-- a copy of its own -/
def kSt (s : Stt) : World → Value → Prop := fun w v => ∃ g g', v = stV s (some ⟨g, 0, none⟩) s.words.length (some ⟨g', 0, none⟩) s.holds.length ∧ StAt w s (some ⟨g, 0, none⟩) s.words.length (some ⟨g', 0, none⟩) s.holds.length
theorem stable_st {s : Stt} {w w' : World} {v : Value} (hr : Gr w w') (h : kSt s w v) : kSt s w' v := by
  obtain ⟨g, g', h1, h2⟩ := h
  exact ⟨g, g', h1, h2.below hr⟩
theorem copy_at {s : Stt} {w : World} {g g' : Nat} (h1 : ORow 3 1 w g s.words.length s.words.length (s.words.map (Value.int .i64))) (h2 : ORow 3 1 w g' s.holds.length s.holds.length (s.holds.map (Value.int .i64))) (l1 : s.words.length ≤ 1048576) (l2 : s.holds.length ≤ 1048576) : StAt w s (some ⟨g, 0, none⟩) s.words.length (some ⟨g', 0, none⟩) s.holds.length :=
  ⟨h1.ints, h2.ints, Nat.le_refl _, by omega, Nat.le_refl _, by omega⟩

set_option maxRecDepth 100000 in
set_option maxHeartbeats 2000000 in
theorem walk (hI : AtmOkC) (s : Stt) (pw ph : Option Addr) (cw ch : Nat) (w : World) (hx : StAt w s pw cw ph ch) :
    Calls Try.prog 17 #[stV s pw cw ph ch] w fun e w' => e = .returned (.bool true) ∧ Below w.heap.size w w' := by
  have hbl : ∀ o, Below w.heap.size w (w.alloc o) := fun o => (Below.refl _ w).alloc (Nat.le_refl _) o
  have HC := Hid.intro hI
  have HX := Hid.intro hx
  have d1 := hx.cw1
  have d2 := hx.cw2
  have d3 := hx.ch1
  have d4 := hx.ch2
  clear hx hI
  have HS := Hid.intro (fun W => szAtm_any pw ph s.words.length s.holds.length cw ch 1048576 W (by omega) (by omega) (by omega) (by omega))
  by_cases hl : (s.words.length : Int) + (s.holds.length : Int) ≤ 1048576
  · have hN : ¬ (1048576 - (s.words.length : Int) - (s.holds.length : Int) < 0) := by omega
    have HT : Hid (∀ W, StAt W s pw cw ph ch → Calls Try.prog 46 #[.agg #[.slice pw s.words.length cw, .slice ph s.holds.length ch]] W fun e w' => ∃ g g', e = .returned (.agg #[.slice (some ⟨g, 0, none⟩) s.words.length s.words.length, .slice (some ⟨g', 0, none⟩) s.holds.length s.holds.length]) ∧ StAt w' s (some ⟨g, 0, none⟩) s.words.length (some ⟨g', 0, none⟩) s.holds.length ∧ Below W.heap.size W w') := by
      refine Hid.intro (fun W h => ?_)
      have := toAtm_any s pw ph cw ch W h (by omega) (by omega)
      unfold stV at this
      refine this.mono ?_
      rintro e w' ⟨g, g', rfl, h1, h2, _, _, _, hb⟩
      exact ⟨g, g', rfl, copy_at h1 h2 (by omega) (by omega), hb⟩
    rw [if_pos hl] at HS
    unfold stV
    go_enter Try.func17, Try.ntmps17
    go_wp2_with fail
    refine (HS.out _).mono ?_
    rintro e w1 ⟨rfl, hb1⟩
    have bA1 : w1.heap[w.heap.size]? = some (.cells #[.slice pw s.words.length cw, .slice ph s.holds.length ch] 66 (0, 0)) := (hb1.block w.heap.size (by simp)).trans (nw_at _ rfl)
    have c0 : w1.cell? ⟨w.heap.size, 0, none⟩ = some (.slice pw s.words.length cw) := heap_cell bA1 0
    have c1 : w1.cell? ⟨w.heap.size, 1, none⟩ = some (.slice ph s.holds.length ch) := heap_cell bA1 1
    have hb1' := (hbl _).trans (hb1.mono (hbl _).size)
    have hA1 := heap_lt bA1
    clear hb1
    go_wp2_with fail
    refine (HT.out w1 (HX.out.below hb1')).mono ?_
    rintro e w2 ⟨f1, f2, rfl, hR2, hb2⟩
    have bA2 := (hb2.block w.heap.size hA1).trans bA1
    have hb2' := hb1'.trans (hb2.mono hb1'.size)
    clear hb2 bA1 hb1' c0 c1 hA1
    have HQ := Hid.intro (spec_AtmOk s _ _ _ _ w2 hR2)
    unfold stV at HQ
    go_wp2_with fail
    refine HQ.out.mono ?_
    rintro e w3 ⟨rfl, hb3⟩
    have bA3 := (hb3.block w.heap.size (heap_lt bA2)).trans bA2
    have hb3' := hb2'.trans (hb3.mono hb2'.size)
    have hA3 := heap_lt bA3
    clear hb3 bA2 hb2' hR2 HQ
    have c0 : w3.cell? ⟨w.heap.size, 0, none⟩ = some (.slice pw s.words.length cw) := heap_cell bA3 0
    have c1 : w3.cell? ⟨w.heap.size, 1, none⟩ = some (.slice ph s.holds.length ch) := heap_cell bA3 1
    go_wp2_with fail
    refine (HT.out w3 (HX.out.below hb3')).mono ?_
    rintro e w4 ⟨g, g', rfl, hR4, hb4⟩
    have bA4 := (hb4.block w.heap.size hA3).trans bA3
    have hb4' := hb3'.trans (hb4.mono hb3'.size)
    have hA4 := heap_lt bA4
    clear hb4 bA3 hb3' c0 c1 hA3
    have hbl4 : ∀ o, Below w4.heap.size w4 (w4.alloc o) := fun o => (Below.refl _ w4).alloc (Nat.le_refl _) o
    have HI := Hid.intro (fun W h => HC.out s (some ⟨g, 0, none⟩) (some ⟨g', 0, none⟩) s.words.length s.holds.length W h)
    unfold stV at HI
    go_wp2_with fail
    refine (HI.out _ (hR4.below (hbl4 _))).mono ?_
    rintro e w5 ⟨rfl, hb5⟩
    have hs5 := hb5.size
    simp at hs5
    have bA5 := (hb5.block w.heap.size (by simp; omega)).trans (((hbl4 _).block w.heap.size hA4).trans bA4)
    have bB5 : w5.heap[w4.heap.size]? = some (.cells #[.slice (some ⟨g, 0, none⟩) s.words.length s.words.length, .slice (some ⟨g', 0, none⟩) s.holds.length s.holds.length] 28 (0, 0)) := (hb5.block w4.heap.size (by simp)).trans (nw_at _ rfl)
    have hR5 := (hR4.below (hbl4 _)).below hb5
    have hb5' := (hb4'.trans ((hbl4 _).mono hb4'.size)).trans (hb5.mono (by simp; omega))
    have hx5 := HX.out.below hb5'
    have hA5 : w.heap.size < w5.heap.size := by omega
    have hB5 : w4.heap.size < w5.heap.size := by omega
    clear hb5 hR4 hbl4 bA4 hb4' HI
    go_wp2_with fail
    refine wp_region_typed (by kernel_rfl) Gr (fun _ W => Below w5.heap.size w5 W)
      (tab [(22, kIs (.agg #[.slice (some ⟨g, 0, none⟩) s.words.length s.words.length, .slice (some ⟨g', 0, none⟩) s.holds.length s.holds.length])), (23, kIs (.agg #[.slice pw s.words.length cw, .slice ph s.holds.length ch])), (24, kSt s), (25, kIs (.bool true)), (26, kIs (.bool false))])
      [22, 23, 24, 25, 26] (by kernel_rfl) (by kernel_rfl) ?_ ?_ ?_ ?_
    · refine tabR_stable ?_
      intro x hx
      simp at hx
      rcases hx with rfl | rfl | rfl | rfl | rfl
      all_goals intro w w' v hr hv
      all_goals first | exact hv | exact stable_st hr hv
    · exact (Below.refl _ _).drew
    · refine ops_cons (gd rfl <| tx_pure rfl rfl (fun _ _ h => h) Gr.refl (fun i ρ W hat hW => ?_)) ?_
      · have bW := (hW.block w4.heap.size hB5).trans bB5
        have c0 : W.cell? ⟨w4.heap.size, 0, none⟩ = some (.slice (some ⟨g, 0, none⟩) s.words.length s.words.length) := heap_cell bW 0
        have c1 : W.cell? ⟨w4.heap.size, 1, none⟩ = some (.slice (some ⟨g', 0, none⟩) s.holds.length s.holds.length) := heap_cell bW 1
        have e2 := hat.out 5 (by kernel_rfl)
        simp [Act.eval] at e2
        clear bW
        simp only [execOp, e2]; go_simp
      refine ops_cons (gd rfl <| tx_pure rfl rfl (fun _ _ h => h) Gr.refl (fun i ρ W hat hW => ?_)) ?_
      · have bW := (hW.block w.heap.size hA5).trans bA5
        have c0 : W.cell? ⟨w.heap.size, 0, none⟩ = some (.slice pw s.words.length cw) := heap_cell bW 0
        have c1 : W.cell? ⟨w.heap.size, 1, none⟩ = some (.slice ph s.holds.length ch) := heap_cell bW 1
        have e2 := hat.out 1 (by kernel_rfl)
        simp [Act.eval] at e2
        clear bW
        simp only [execOp, e2]; go_simp
      refine ops_cons (gd rfl <| tx_call rfl (fun i ρ W _ hat hW => ?_)) ?_
      · have e1 : ρ (.tmp 23) = _ := hat.dep 23 (by kernel_rfl)
        have hf := hat.fn
        refine ⟨46, #[.agg #[.slice pw s.words.length cw, .slice ph s.holds.length ch]], by simp only [execOp]; go_simp, ?_⟩
        refine (HT.out W (hx5.below hW)).mono ?_
        rintro e W' ⟨k1, k2, rfl, hR, hb⟩
        exact ⟨_, rfl, hW.trans (hb.mono hW.size), hb, k1, k2, rfl, hR⟩
      refine ops_cons (gd rfl <| tx_call rfl (fun i ρ W _ hat hW => ?_)) ?_
      · have e1 : ρ (.tmp 22) = _ := hat.dep 22 (by kernel_rfl)
        obtain ⟨k1, k2, e2, hR⟩ : kSt s W (ρ (.tmp 24)) := hat.dep 24 (by kernel_rfl)
        have hf := hat.fn
        refine ⟨42, #[.agg #[.slice (some ⟨g, 0, none⟩) s.words.length s.words.length, .slice (some ⟨g', 0, none⟩) s.holds.length s.holds.length], stV s (some ⟨k1, 0, none⟩) s.words.length (some ⟨k2, 0, none⟩) s.holds.length], by simp only [execOp]; go_simp, ?_⟩
        refine (eqAtm_same s _ _ _ _ _ _ _ _ W (hR5.below hW) hR).mono ?_
        rintro e W' ⟨rfl, hb⟩
        exact ⟨_, rfl, hW.trans (hb.mono hW.size), hb, rfl⟩
      refine ops_cons (gd rfl <| tx_pure rfl rfl (fun _ _ h => h) Gr.refl (fun i ρ W hat hW => ?_)) ?_
      · have e1 : ρ (.tmp 25) = _ := hat.dep 25 (by kernel_rfl)
        simp only [execOp, e1]; go_simp
      exact ops_nil
    · intro f W hW hf
      have e26 : f 26 = .bool false := hf 26 (by simp)
      clear hf
      have hbW := hb5'.trans (hW.mono hb5'.size)
      simp only [fill, e26]
      go_simp
      go_wp2
      go_ret
      exact ⟨rfl, hbW⟩
  · rw [if_neg hl] at HS
    unfold stV
    go_enter Try.func17, Try.ntmps17
    go_wp2_with fail
    refine (HS.out _).mono ?_
    rintro e w1 ⟨rfl, hb1⟩
    have hb1' := (hbl _).trans (hb1.mono (hbl _).size)
    clear hb1
    go_wp2
    go_ret
    exact ⟨rfl, hb1'⟩
end fnExactAtmOk

end Go.Proofs.Ytcjlmdjiddadfaa
