/-
  The law FnExactReqOk, walked, by what ReqOk of the program answers.
-/
import Derived.Test.YtdjmjdljgdagcaaRows
import Derived.Test.YtdjmjdljgdagcaaOpenQ
import Derived.Test.YtdjmjdljgdagcaaCtrQ
import Derived.Test.YtdjmjdljgdagcaaReqT
import Derived.Test.YtdjmjdljgdagcaaOpsX
namespace Go.Proofs.Ytdjmjdljgdagcaa.fnExactReqOk
open Go.ChangeShapes Go.WideShapes Go.ChangeAt Go.RowKit
set_option linter.unusedVariables false
set_option linter.unusedSimpArgs false

/-- a copy of its own -/
def kReq (r : Req) : World → Value → Prop := fun w v => ∃ g1 g2, v = reqV r (some ⟨g1, 0, none⟩) r.data.length (some ⟨g2, 0, none⟩) r.lanes.length ∧ ReqAt w r (some ⟨g1, 0, none⟩) r.data.length (some ⟨g2, 0, none⟩) r.lanes.length
theorem stable_req {r : Req} {w w' : World} {v : Value} (hr : Gr w w') (h : kReq r w v) : kReq r w' v := by
  obtain ⟨g1, g2, h1, h2⟩ := h
  exact ⟨g1, g2, h1, h2.below hr⟩

set_option maxRecDepth 100000 in
set_option maxHeartbeats 2000000 in
theorem walk (hI : ReqOkC) (r : Req) (pd pl : Option Addr) (cd cl : Nat) (w : World) (hx : ReqAt w r pd cd pl cl) :
    Calls Try.prog 10 #[reqV r pd cd pl cl] w fun e w' => e = .returned (.bool true) ∧ Below w.heap.size w w' := by
  have hbl : ∀ o, Below w.heap.size w (w.alloc o) := fun o => (Below.refl _ w).alloc (Nat.le_refl _) o
  have HC := Hid.intro hI
  have HX := Hid.intro hx
  have hd0 := hx.cd1
  have hd1 := hx.cd2
  have hd2 := hx.cl1
  have hd3 := hx.cl2
  clear hx hI
  by_cases hl : (r.data.length : Int) + r.lanes.length ≤ 1048576
  · have hsz := szZ_yes hl
    have hN : ¬ (1048576 - (r.data.length : Int) - (r.lanes.length : Int) < 0) := by omega
    have HS := Hid.intro (fun W => szReq_any r pd pl cd cl 1048576 W (by omega) (by omega) (by omega) (by omega))
    have HT := Hid.intro (fun W h => toReq_any r pd pl cd cl W h (by omega) (by omega))
    unfold reqV at HS HT ⊢
    go_enter Try.func10, Try.ntmps10
    go_wp2_with fail
    refine (HS.out _).mono ?_
    rintro e w1 ⟨rfl, hb1⟩
    rw [hsz]
    have hs1 := hb1.size
    simp at hs1
    have bA1 : w1.heap[w.heap.size]? = some (.cells #[.int .i64 r.id, .int .i64 r.kind, .int .i64 r.addr, .int .i64 r.many, .bool r.wrap, (.slice pd r.data.length cd), (.slice pl r.lanes.length cl)] 54 (0, 0)) := (hb1.block w.heap.size (by simp)).trans (at_new _ rfl)
    have c0 : w1.cell? ⟨w.heap.size, 0, none⟩ = some (.int .i64 r.id) := heap_cell bA1 0
    have c1 : w1.cell? ⟨w.heap.size, 1, none⟩ = some (.int .i64 r.kind) := heap_cell bA1 1
    have c2 : w1.cell? ⟨w.heap.size, 2, none⟩ = some (.int .i64 r.addr) := heap_cell bA1 2
    have c3 : w1.cell? ⟨w.heap.size, 3, none⟩ = some (.int .i64 r.many) := heap_cell bA1 3
    have c4 : w1.cell? ⟨w.heap.size, 4, none⟩ = some (.bool r.wrap) := heap_cell bA1 4
    have c5 : w1.cell? ⟨w.heap.size, 5, none⟩ = some (.slice pd r.data.length cd) := heap_cell bA1 5
    have c6 : w1.cell? ⟨w.heap.size, 6, none⟩ = some (.slice pl r.lanes.length cl) := heap_cell bA1 6
    have hb1' := (hbl _).trans (hb1.mono (hbl _).size)
    have hA1 : w.heap.size < w1.heap.size := by omega
    clear hb1
    go_wp2_with fail
    refine (HT.out w1 (HX.out.below hb1')).mono ?_
    rintro e w2 ⟨f1, f2, rfl, hR2, _, _, hb2⟩
    have hs2 := hb2.size
    have bA2 := (hb2.block w.heap.size hA1).trans bA1
    have hb2' := hb1'.trans (hb2.mono hb1'.size)
    clear hb2 bA1 hb1' c0 c1 c2 c3 c4 c5 c6
    have HQ := Hid.intro (spec_ReqOk r _ _ _ _ w2 hR2)
    unfold reqV at HQ
    go_wp2_with fail
    refine HQ.out.mono ?_
    rintro e w3 ⟨rfl, hb3⟩
    have hs3 := hb3.size
    have bA3 := (hb3.block w.heap.size (by omega)).trans bA2
    have hb3' := hb2'.trans (hb3.mono hb2'.size)
    have hA3 : w.heap.size < w3.heap.size := by omega
    clear hb3 bA2 hb2' hR2 HQ
    have c0 : w3.cell? ⟨w.heap.size, 0, none⟩ = some (.int .i64 r.id) := heap_cell bA3 0
    have c1 : w3.cell? ⟨w.heap.size, 1, none⟩ = some (.int .i64 r.kind) := heap_cell bA3 1
    have c2 : w3.cell? ⟨w.heap.size, 2, none⟩ = some (.int .i64 r.addr) := heap_cell bA3 2
    have c3 : w3.cell? ⟨w.heap.size, 3, none⟩ = some (.int .i64 r.many) := heap_cell bA3 3
    have c4 : w3.cell? ⟨w.heap.size, 4, none⟩ = some (.bool r.wrap) := heap_cell bA3 4
    have c5 : w3.cell? ⟨w.heap.size, 5, none⟩ = some (.slice pd r.data.length cd) := heap_cell bA3 5
    have c6 : w3.cell? ⟨w.heap.size, 6, none⟩ = some (.slice pl r.lanes.length cl) := heap_cell bA3 6
    go_wp2_with fail
    refine (HT.out w3 (HX.out.below hb3')).mono ?_
    rintro e w4 ⟨g1, g2, rfl, hR4, _, _, hb4⟩
    have hs4 := hb4.size
    have bA4 := (hb4.block w.heap.size hA3).trans bA3
    have hb4' := hb3'.trans (hb4.mono hb3'.size)
    have hA4 : w.heap.size < w4.heap.size := by omega
    clear hb4 bA3 hb3' c0 c1 c2 c3 c4 c5 c6
    have hbl4 : ∀ o, Below w4.heap.size w4 (w4.alloc o) := fun o => (Below.refl _ w4).alloc (Nat.le_refl _) o
    have HI := Hid.intro (fun W h => HC.out r (some ⟨g1, 0, none⟩) (some ⟨g2, 0, none⟩) r.data.length r.lanes.length W h)
    unfold reqV at HI
    go_wp2_with fail
    refine (HI.out _ (hR4.below (hbl4 _))).mono ?_
    rintro e w5 ⟨rfl, hb5⟩
    have hs5 := hb5.size
    simp at hs5
    have bA5 := (hb5.block w.heap.size (by simp; omega)).trans (((hbl4 _).block w.heap.size hA4).trans bA4)
    have bB5 : w5.heap[w4.heap.size]? = some (.cells #[.int .i64 r.id, .int .i64 r.kind, .int .i64 r.addr, .int .i64 r.many, .bool r.wrap, (.slice (some ⟨g1, 0, none⟩) r.data.length r.data.length), (.slice (some ⟨g2, 0, none⟩) r.lanes.length r.lanes.length)] 33 (0, 0)) := (hb5.block w4.heap.size (by simp)).trans (at_new _ rfl)
    have hR5 := (hR4.below (hbl4 _)).below hb5
    have hb5' := (hb4'.trans ((hbl4 _).mono hb4'.size)).trans (hb5.mono (by simp; omega))
    have hx5 := HX.out.below hb5'
    have hA5 : w.heap.size < w5.heap.size := by omega
    have hB5 : w4.heap.size < w5.heap.size := by omega
    clear hb5 hR4 hbl4 bA4 hb4' HI
    go_wp2_with fail
    refine wp_region_typed (by kernel_rfl) Gr (fun _ W => Below w5.heap.size w5 W)
      (tab [(22, kIs (.agg #[.int .i64 r.id, .int .i64 r.kind, .int .i64 r.addr, .int .i64 r.many, .bool r.wrap, (.slice (some ⟨g1, 0, none⟩) r.data.length r.data.length), (.slice (some ⟨g2, 0, none⟩) r.lanes.length r.lanes.length)])), (23, kIs (.agg #[.int .i64 r.id, .int .i64 r.kind, .int .i64 r.addr, .int .i64 r.many, .bool r.wrap, (.slice pd r.data.length cd), (.slice pl r.lanes.length cl)])), (24, kReq r), (25, kIs (.bool true)), (26, kIs (.bool false))])
      [22, 23, 24, 25, 26] (by kernel_rfl) (by kernel_rfl) ?_ ?_ ?_ ?_
    · refine tabR_stable ?_
      intro x hx
      simp at hx
      rcases hx with rfl | rfl | rfl | rfl | rfl
      all_goals intro w w' v hr hv
      all_goals first | exact hv | exact stable_req hr hv
    · exact (Below.refl _ _).drew
    · refine ops_cons (gd rfl <| tx_pure rfl rfl (fun _ _ h => h) Gr.refl (fun i ρ W hat hW => ?_)) ?_
      · have bW := (hW.block w4.heap.size hB5).trans bB5
        have c0 : W.cell? ⟨w4.heap.size, 0, none⟩ = some (.int .i64 r.id) := heap_cell bW 0
        have c1 : W.cell? ⟨w4.heap.size, 1, none⟩ = some (.int .i64 r.kind) := heap_cell bW 1
        have c2 : W.cell? ⟨w4.heap.size, 2, none⟩ = some (.int .i64 r.addr) := heap_cell bW 2
        have c3 : W.cell? ⟨w4.heap.size, 3, none⟩ = some (.int .i64 r.many) := heap_cell bW 3
        have c4 : W.cell? ⟨w4.heap.size, 4, none⟩ = some (.bool r.wrap) := heap_cell bW 4
        have c5 : W.cell? ⟨w4.heap.size, 5, none⟩ = some (.slice (some ⟨g1, 0, none⟩) r.data.length r.data.length) := heap_cell bW 5
        have c6 : W.cell? ⟨w4.heap.size, 6, none⟩ = some (.slice (some ⟨g2, 0, none⟩) r.lanes.length r.lanes.length) := heap_cell bW 6
        have e2 := hat.out 5 (by kernel_rfl)
        simp [Act.eval] at e2
        clear bW
        simp only [execOp, e2]; go_simp
      refine ops_cons (gd rfl <| tx_pure rfl rfl (fun _ _ h => h) Gr.refl (fun i ρ W hat hW => ?_)) ?_
      · have bW := (hW.block w.heap.size hA5).trans bA5
        have c0 : W.cell? ⟨w.heap.size, 0, none⟩ = some (.int .i64 r.id) := heap_cell bW 0
        have c1 : W.cell? ⟨w.heap.size, 1, none⟩ = some (.int .i64 r.kind) := heap_cell bW 1
        have c2 : W.cell? ⟨w.heap.size, 2, none⟩ = some (.int .i64 r.addr) := heap_cell bW 2
        have c3 : W.cell? ⟨w.heap.size, 3, none⟩ = some (.int .i64 r.many) := heap_cell bW 3
        have c4 : W.cell? ⟨w.heap.size, 4, none⟩ = some (.bool r.wrap) := heap_cell bW 4
        have c5 : W.cell? ⟨w.heap.size, 5, none⟩ = some (.slice pd r.data.length cd) := heap_cell bW 5
        have c6 : W.cell? ⟨w.heap.size, 6, none⟩ = some (.slice pl r.lanes.length cl) := heap_cell bW 6
        have e2 := hat.out 1 (by kernel_rfl)
        simp [Act.eval] at e2
        clear bW
        simp only [execOp, e2]; go_simp
      refine ops_cons (gd rfl <| tx_call rfl (fun i ρ W _ hat hW => ?_)) ?_
      · have e1 : ρ (.tmp 23) = _ := hat.dep 23 (by kernel_rfl)
        have hf := hat.fn
        refine ⟨37, #[.agg #[.int .i64 r.id, .int .i64 r.kind, .int .i64 r.addr, .int .i64 r.many, .bool r.wrap, (.slice pd r.data.length cd), (.slice pl r.lanes.length cl)]], by simp only [execOp]; go_simp, ?_⟩
        refine (HT.out W (hx5.below hW)).mono ?_
        rintro e W' ⟨k1, k2, rfl, hR, _, _, hb⟩
        exact ⟨_, rfl, hW.trans (hb.mono hW.size), hb, k1, k2, rfl, hR⟩
      refine ops_cons (gd rfl <| tx_call rfl (fun i ρ W _ hat hW => ?_)) ?_
      · have e1 : ρ (.tmp 22) = _ := hat.dep 22 (by kernel_rfl)
        obtain ⟨k1, k2, e2, hR⟩ : kReq r W (ρ (.tmp 24)) := hat.dep 24 (by kernel_rfl)
        have hf := hat.fn
        refine ⟨38, #[.agg #[.int .i64 r.id, .int .i64 r.kind, .int .i64 r.addr, .int .i64 r.many, .bool r.wrap, (.slice (some ⟨g1, 0, none⟩) r.data.length r.data.length), (.slice (some ⟨g2, 0, none⟩) r.lanes.length r.lanes.length)], reqV r (some ⟨k1, 0, none⟩) r.data.length (some ⟨k2, 0, none⟩) r.lanes.length], by simp only [execOp]; go_simp, ?_⟩
        refine (eqReq_same r _ _ _ _ _ _ _ _ W (hR5.below hW) hR).mono ?_
        rintro e W' ⟨rfl, hb⟩
        exact ⟨_, rfl, hW.trans (hb.mono hW.size), hb, rfl⟩
      refine ops_cons (gd rfl <| tx_pure rfl rfl (fun _ _ h => h) Gr.refl (fun i ρ W hat hW => ?_)) ?_
      · have e1 : ρ (.tmp 25) = _ := hat.dep 25 (by kernel_rfl)
        simp only [execOp, e1]; go_simp
      exact ops_nil
    · intro f W hW hf
      have e26 : f 26 = .bool false := hf 26 (by simp)
      clear hf
      have hbW := hb5'.trans (hW.mono hb5'.size)
      simp only [fill, e26]
      go_simp
      go_wp2
      go_ret
      exact ⟨rfl, hbW⟩
  · have hsz := szZ_no hl
    have HS := Hid.intro (fun W => szReq_any r pd pl cd cl 1048576 W (by omega) (by omega) (by omega) (by omega))
    unfold reqV at HS ⊢
    go_enter Try.func10, Try.ntmps10
    go_wp2_with fail
    refine (HS.out _).mono ?_
    rintro e w1 ⟨rfl, hb1⟩
    rw [hsz]
    have hb1' := (hbl _).trans (hb1.mono (hbl _).size)
    go_wp2
    go_ret
    exact ⟨rfl, hb1'⟩

end Go.Proofs.Ytdjmjdljgdagcaa.fnExactReqOk
