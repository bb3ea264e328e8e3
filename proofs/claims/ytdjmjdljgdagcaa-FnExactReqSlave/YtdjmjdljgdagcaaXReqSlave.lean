/-
  The law FnExactReqSlave, walked, by what ReqSlave of the program answers.
-/
import Derived.Test.YtdjmjdljgdagcaaRows
import Derived.Test.YtdjmjdljgdagcaaXReqOk
import Derived.Test.YtdjmjdljgdagcaaRows4
import Derived.Test.YtdjmjdljgdagcaaOpenR
namespace Go.Proofs.Ytdjmjdljgdagcaa.fnExactReqSlave
open Go.ChangeShapes Go.WideShapes Go.ChangeAt Go.RowKit Go.Proofs.Ytdjmjdljgdagcaa.fnExactReqOk
set_option linter.unusedVariables false
set_option linter.unusedSimpArgs false

/-- ranges of its own -/
def kRngs (ms : List Rng) : World → Value → Prop := fun w v => ∃ g, v = .slice (some ⟨g, 0, none⟩) ms.length ms.length ∧ RowOf w (some ⟨g, 0, none⟩) ms
theorem stable_rngs {ms : List Rng} {w w' : World} {v : Value} (hr : Gr w w') (h : kRngs ms w v) : kRngs ms w' v := by
  obtain ⟨g, h1, h2⟩ := h
  exact ⟨g, h1, h2.below hr⟩

set_option maxRecDepth 100000 in
set_option maxHeartbeats 4000000 in
theorem walk (hI : ReqSlaveC) (a : Option Addr) (cap : Nat) (ms : List Rng) (r : Req) (pd pl : Option Addr) (cd cl : Nat) (w : World) (hm : RowOf w a ms) (hc : ms.length ≤ cap) (hc' : cap ≤ 9223372036854775807) (hx : ReqAt w r pd cd pl cl) :
    Calls Try.prog 11 #[.slice a ms.length cap, reqV r pd cd pl cl] w fun e w' => e = .returned (.bool true) ∧ Below w.heap.size w w' := by
  have hbl : ∀ o, Below w.heap.size w (w.alloc o) := fun o => (Below.refl _ w).alloc (Nat.le_refl _) o
  have HC := Hid.intro hI
  have HX := Hid.intro hx
  have HM := Hid.intro hm
  have hd0 := hx.cd1
  have hd1 := hx.cd2
  have hd2 := hx.cl1
  have hd3 := hx.cl2
  clear hx hI hm
  have HZ := Hid.intro (fun W => sz_any a ms.length cap W (by omega))
  by_cases hlm : ms.length ≤ 1048576
  rotate_left
  · rw [if_neg hlm] at HZ
    unfold reqV
    go_enter Try.func11, Try.ntmps11
    go_wp2_with fail
    refine (HZ.out _).mono ?_
    rintro e w1 ⟨rfl, rfl⟩
    go_wp2
    go_ret
    exact ⟨rfl, hbl _⟩
  rw [if_pos hlm] at HZ
  have hN0 : ¬ (1048576 - (ms.length : Int) < 0) := by omega
  have HS := Hid.intro (fun W => szReq_any r pd pl cd cl (1048576 - (ms.length : Int)) W (by omega) (by omega) (by omega) (by omega))
  by_cases hl : (r.data.length : Int) + r.lanes.length ≤ 1048576 - (ms.length : Int)
  rotate_left
  · have hsz := szZ_no hl
    unfold reqV at HS ⊢
    go_enter Try.func11, Try.ntmps11
    go_wp2_with fail
    refine (HZ.out _).mono ?_
    rintro e w1 ⟨rfl, rfl⟩
    go_wp2_with fail
    refine (HS.out _).mono ?_
    rintro e w1 ⟨rfl, hb1⟩
    rw [hsz]
    have hb1' := (hbl _).trans (hb1.mono (hbl _).size)
    go_wp2
    go_ret
    exact ⟨rfl, hb1'⟩
  have hsz := szZ_yes hl
  have hN : ¬ (1048576 - (ms.length : Int) - (r.data.length : Int) - (r.lanes.length : Int) < 0) := by omega
  have HT := Hid.intro (fun W h => toReq_any r pd pl cd cl W h (by omega) (by omega))
  have HR := Hid.intro (fun W h => toRows_any a cap ms W h hc hc' hlm)
  unfold reqV at HS HT ⊢
  go_enter Try.func11, Try.ntmps11
  go_wp2_with fail
  refine (HZ.out _).mono ?_
  rintro e w0 ⟨rfl, rfl⟩
  go_wp2_with fail
  refine (HS.out _).mono ?_
  rintro e w1 ⟨rfl, hb1⟩
  rw [hsz]
  have hs1 := hb1.size
  simp at hs1
  have bA1 : w1.heap[w.heap.size]? = some (.cells #[.int .i64 r.id, .int .i64 r.kind, .int .i64 r.addr, .int .i64 r.many, .bool r.wrap, (.slice pd r.data.length cd), (.slice pl r.lanes.length cl)] 54 (0, 0)) := (hb1.block w.heap.size (by simp)).trans (at_new _ rfl)
  have hb1' := (hbl _).trans (hb1.mono (hbl _).size)
  have hA1 : w.heap.size < w1.heap.size := by omega
  have hx1 := HX.out.below hb1'
  have hm1 := HM.out.below hb1'
  obtain ⟨nz, hnz⟩ : ∃ nz, nz = reqSlaveZ ms r := ⟨_, rfl⟩
  have HNZ := Hid.intro hnz
  clear hb1 hnz
  go_wp2_with fail
  refine wp_region_typed (by kernel_rfl) Gr (fun _ W => Below w1.heap.size w1 W)
    (tab [(20, kIs (.slice a ms.length cap)), (21, kRngs ms), (22, kIs (.agg #[.int .i64 r.id, .int .i64 r.kind, .int .i64 r.addr, .int .i64 r.many, .bool r.wrap, (.slice pd r.data.length cd), (.slice pl r.lanes.length cl)])), (23, kReq r), (24, kIs (.int .i64 nz)), (6, kIs (.int .i64 nz))])
    [20, 21, 22, 23, 24, 6] (by kernel_rfl) (by kernel_rfl) ?_ ?_ ?_ ?_
  · refine tabR_stable ?_
    intro x hx
    simp at hx
    rcases hx with rfl | rfl | rfl | rfl | rfl | rfl
    all_goals intro w w' v hr hv
    all_goals first | exact hv | exact stable_req hr hv | exact stable_rngs hr hv
  · exact (Below.refl _ _).drew
  · refine ops_cons (gd rfl <| ty_move_out (.inl rfl) rfl (by kernel_rfl) rfl (fun _ _ h => h) Gr.refl) ?_
    refine ops_cons (gd rfl <| tx_call rfl (fun i ρ W _ hat hW => ?_)) ?_
    · have e1 : ρ (.tmp 20) = _ := hat.dep 20 (by kernel_rfl)
      have hf := hat.fn
      refine ⟨40, #[.slice a ms.length cap], by simp only [execOp]; go_simp, ?_⟩
      refine (HR.out W (hm1.below hW)).mono ?_
      rintro e W' ⟨rfl, hR, hb, _⟩
      exact ⟨_, rfl, hW.trans (hb.mono hW.size), hb, W.heap.size, rfl, hR⟩
    refine ops_cons (gd rfl <| tx_pure rfl rfl (fun _ _ h => h) Gr.refl (fun i ρ W hat hW => ?_)) ?_
    · have bW := (hW.block w.heap.size hA1).trans bA1
      have c0 : W.cell? ⟨w.heap.size, 0, none⟩ = some (.int .i64 r.id) := heap_cell bW 0
      have c1 : W.cell? ⟨w.heap.size, 1, none⟩ = some (.int .i64 r.kind) := heap_cell bW 1
      have c2 : W.cell? ⟨w.heap.size, 2, none⟩ = some (.int .i64 r.addr) := heap_cell bW 2
      have c3 : W.cell? ⟨w.heap.size, 3, none⟩ = some (.int .i64 r.many) := heap_cell bW 3
      have c4 : W.cell? ⟨w.heap.size, 4, none⟩ = some (.bool r.wrap) := heap_cell bW 4
      have c5 : W.cell? ⟨w.heap.size, 5, none⟩ = some (.slice pd r.data.length cd) := heap_cell bW 5
      have c6 : W.cell? ⟨w.heap.size, 6, none⟩ = some (.slice pl r.lanes.length cl) := heap_cell bW 6
      have e2 := hat.out 3 (by kernel_rfl)
      simp [Act.eval] at e2
      clear bW
      simp only [execOp, e2]; go_simp
    refine ops_cons (gd rfl <| tx_call rfl (fun i ρ W _ hat hW => ?_)) ?_
    · have e1 : ρ (.tmp 22) = _ := hat.dep 22 (by kernel_rfl)
      have hf := hat.fn
      refine ⟨37, #[.agg #[.int .i64 r.id, .int .i64 r.kind, .int .i64 r.addr, .int .i64 r.many, .bool r.wrap, (.slice pd r.data.length cd), (.slice pl r.lanes.length cl)]], by simp only [execOp]; go_simp, ?_⟩
      refine (HT.out W (hx1.below hW)).mono ?_
      rintro e W' ⟨k1, k2, rfl, hR, _, _, hb⟩
      exact ⟨_, rfl, hW.trans (hb.mono hW.size), hb, k1, k2, rfl, hR⟩
    refine ops_cons (gd rfl <| tx_call rfl (fun i ρ W _ hat hW => ?_)) ?_
    · obtain ⟨g, e1, hG⟩ : kRngs ms W (ρ (.tmp 21)) := hat.dep 21 (by kernel_rfl)
      obtain ⟨k1, k2, e2, hR⟩ : kReq r W (ρ (.tmp 23)) := hat.dep 23 (by kernel_rfl)
      have hf := hat.fn
      refine ⟨25, #[.slice (some ⟨g, 0, none⟩) ms.length ms.length, reqV r (some ⟨k1, 0, none⟩) r.data.length (some ⟨k2, 0, none⟩) r.lanes.length], by simp only [execOp]; go_simp, ?_⟩
      refine (spec_ReqSlave (some ⟨g, 0, none⟩) ms.length ms r _ _ _ _ W hG (Nat.le_refl _) (by omega) hR).mono ?_
      rintro e W' ⟨rfl, hb⟩
      exact ⟨_, rfl, hW.trans (hb.mono hW.size), hb, by rw [HNZ.out]; rfl⟩
    refine ops_cons (gd rfl <| ty_move_dep (.inr rfl) rfl (by kernel_rfl) rfl (fun _ _ h => h) Gr.refl) ?_
    exact ops_nil
  intro f0 w2 hW2 hf
  have e6 : f0 6 = .int .i64 nz := hf 6 (by simp)
  clear hf
  have hs2 := hW2.size
  have hb2' := hb1'.trans (hW2.mono hb1'.size)
  have bA2 := (hW2.block w.heap.size hA1).trans bA1
  have hA2 : w.heap.size < w2.heap.size := by omega
  clear hW2 bA1 hb1' hx1 hm1
  simp only [fill, e6]
  go_simp
  go_wp2_with fail
  refine (HR.out w2 (HM.out.below hb2')).mono ?_
  rintro e w3 ⟨rfl, hR3, hb3, hlt3⟩
  have hs3 := hb3.size
  have bA3 := (hb3.block w.heap.size hA2).trans bA2
  have hb3' := hb2'.trans (hb3.mono hb2'.size)
  have hA3 : w.heap.size < w3.heap.size := by omega
  obtain ⟨gm, hgm⟩ : ∃ gm, gm = w2.heap.size := ⟨_, rfl⟩
  rw [← hgm] at hR3 hlt3 ⊢
  clear hb3 bA2 hb2' hgm
  have c0 : w3.cell? ⟨w.heap.size, 0, none⟩ = some (.int .i64 r.id) := heap_cell bA3 0
  have c1 : w3.cell? ⟨w.heap.size, 1, none⟩ = some (.int .i64 r.kind) := heap_cell bA3 1
  have c2 : w3.cell? ⟨w.heap.size, 2, none⟩ = some (.int .i64 r.addr) := heap_cell bA3 2
  have c3 : w3.cell? ⟨w.heap.size, 3, none⟩ = some (.int .i64 r.many) := heap_cell bA3 3
  have c4 : w3.cell? ⟨w.heap.size, 4, none⟩ = some (.bool r.wrap) := heap_cell bA3 4
  have c5 : w3.cell? ⟨w.heap.size, 5, none⟩ = some (.slice pd r.data.length cd) := heap_cell bA3 5
  have c6 : w3.cell? ⟨w.heap.size, 6, none⟩ = some (.slice pl r.lanes.length cl) := heap_cell bA3 6
  go_wp2_with fail
  refine (HT.out w3 (HX.out.below hb3')).mono ?_
  rintro e w4 ⟨g1, g2, rfl, hR4, _, _, hb4⟩
  have hs4 := hb4.size
  have bA4 := (hb4.block w.heap.size hA3).trans bA3
  have hM4 := hR3.below hb4
  have hb4' := hb3'.trans (hb4.mono hb3'.size)
  have hA4 : w.heap.size < w4.heap.size := by omega
  clear hb4 bA3 hb3' hR3 c0 c1 c2 c3 c4 c5 c6
  have hbl4 : ∀ o, Below w4.heap.size w4 (w4.alloc o) := fun o => (Below.refl _ w4).alloc (Nat.le_refl _) o
  have HI := Hid.intro (fun W h1 h2 => HC.out (some ⟨gm, 0, none⟩) ms.length ms r (some ⟨g1, 0, none⟩) (some ⟨g2, 0, none⟩) r.data.length r.lanes.length W h1 (Nat.le_refl _) (by omega) h2)
  unfold reqV at HI
  rw [← HNZ.out] at HI
  go_wp2_with fail
  refine (HI.out _ (hM4.below (hbl4 _)) (hR4.below (hbl4 _))).mono ?_
  rintro e w5 ⟨rfl, hb5⟩
  have hs5 := hb5.size
  simp at hs5
  have bA5 := (hb5.block w.heap.size (by simp; omega)).trans (((hbl4 _).block w.heap.size hA4).trans bA4)
  have bB5 : w5.heap[w4.heap.size]? = some (.cells #[.int .i64 r.id, .int .i64 r.kind, .int .i64 r.addr, .int .i64 r.many, .bool r.wrap, (.slice (some ⟨g1, 0, none⟩) r.data.length r.data.length), (.slice (some ⟨g2, 0, none⟩) r.lanes.length r.lanes.length)] 33 (0, 0)) := (hb5.block w4.heap.size (by simp)).trans (at_new _ rfl)
  have hR5 := (hR4.below (hbl4 _)).below hb5
  have hM5 := (hM4.below (hbl4 _)).below hb5
  have hb5' := (hb4'.trans ((hbl4 _).mono hb4'.size)).trans (hb5.mono (by simp; omega))
  have hA5 : w.heap.size < w5.heap.size := by omega
  have hB5 : w4.heap.size < w5.heap.size := by omega
  clear hb5 hR4 hM4 hbl4 bA4 hb4' HI
  go_wp2_with fail
  refine (HR.out w5 (HM.out.below hb5')).mono ?_
  rintro e w6 ⟨rfl, hR6, hb6, hlt6⟩
  have hs6 := hb6.size
  have hM6 := hM5.below hb6
  have hR56 := hR5.below hb6
  have bA6 := (hb6.block w.heap.size hA5).trans bA5
  have bB6 := (hb6.block w4.heap.size hB5).trans bB5
  have hb6' := hb5'.trans (hb6.mono hb5'.size)
  clear hb6 hM5 hR5 bA5 bB5 hb5'
  go_wp2_with fail
  refine (eqRows_any (some ⟨gm, 0, none⟩) _ ms.length ms.length ms w6 hM6 hR6 (Nat.le_refl _) (by omega) (Nat.le_refl _) (by omega)).mono ?_
  rintro e w7 ⟨rfl, hb7⟩
  have hs7 := hb7.size
  have hR7 := hR56.below hb7
  have bA7 := (hb7.block w.heap.size (by omega)).trans bA6
  have bB7 := (hb7.block w4.heap.size (by omega)).trans bB6
  have hb7' := hb6'.trans (hb7.mono hb6'.size)
  have hx7 := HX.out.below hb7'
  have hA7 : w.heap.size < w7.heap.size := by omega
  have hB7 : w4.heap.size < w7.heap.size := by omega
  clear hb7 hR56 bA6 bB6 hb6' hM6 hR6
  go_wp2_with fail
  refine wp_region_typed (by kernel_rfl) Gr (fun _ W => Below w7.heap.size w7 W)
    (tab [(40, kIs (.agg #[.int .i64 r.id, .int .i64 r.kind, .int .i64 r.addr, .int .i64 r.many, .bool r.wrap, (.slice (some ⟨g1, 0, none⟩) r.data.length r.data.length), (.slice (some ⟨g2, 0, none⟩) r.lanes.length r.lanes.length)])), (41, kIs (.agg #[.int .i64 r.id, .int .i64 r.kind, .int .i64 r.addr, .int .i64 r.many, .bool r.wrap, (.slice pd r.data.length cd), (.slice pl r.lanes.length cl)])), (42, kReq r), (43, kIs (.bool true)), (44, kIs (.bool false))])
    [40, 41, 42, 43, 44] (by kernel_rfl) (by kernel_rfl) ?_ ?_ ?_ ?_
  · refine tabR_stable ?_
    intro x hx
    simp at hx
    rcases hx with rfl | rfl | rfl | rfl | rfl
    all_goals intro w w' v hr hv
    all_goals first | exact hv | exact stable_req hr hv
  · exact (Below.refl _ _).drew
  · refine ops_cons (gd rfl <| tx_pure rfl rfl (fun _ _ h => h) Gr.refl (fun i ρ W hat hW => ?_)) ?_
    · have bW := (hW.block w4.heap.size hB7).trans bB7
      have c0 : W.cell? ⟨w4.heap.size, 0, none⟩ = some (.int .i64 r.id) := heap_cell bW 0
      have c1 : W.cell? ⟨w4.heap.size, 1, none⟩ = some (.int .i64 r.kind) := heap_cell bW 1
      have c2 : W.cell? ⟨w4.heap.size, 2, none⟩ = some (.int .i64 r.addr) := heap_cell bW 2
      have c3 : W.cell? ⟨w4.heap.size, 3, none⟩ = some (.int .i64 r.many) := heap_cell bW 3
      have c4 : W.cell? ⟨w4.heap.size, 4, none⟩ = some (.bool r.wrap) := heap_cell bW 4
      have c5 : W.cell? ⟨w4.heap.size, 5, none⟩ = some (.slice (some ⟨g1, 0, none⟩) r.data.length r.data.length) := heap_cell bW 5
      have c6 : W.cell? ⟨w4.heap.size, 6, none⟩ = some (.slice (some ⟨g2, 0, none⟩) r.lanes.length r.lanes.length) := heap_cell bW 6
      have e2 := hat.out 8 (by kernel_rfl)
      simp [Act.eval] at e2
      clear bW
      simp only [execOp, e2]; go_simp
    refine ops_cons (gd rfl <| tx_pure rfl rfl (fun _ _ h => h) Gr.refl (fun i ρ W hat hW => ?_)) ?_
    · have bW := (hW.block w.heap.size hA7).trans bA7
      have c0 : W.cell? ⟨w.heap.size, 0, none⟩ = some (.int .i64 r.id) := heap_cell bW 0
      have c1 : W.cell? ⟨w.heap.size, 1, none⟩ = some (.int .i64 r.kind) := heap_cell bW 1
      have c2 : W.cell? ⟨w.heap.size, 2, none⟩ = some (.int .i64 r.addr) := heap_cell bW 2
      have c3 : W.cell? ⟨w.heap.size, 3, none⟩ = some (.int .i64 r.many) := heap_cell bW 3
      have c4 : W.cell? ⟨w.heap.size, 4, none⟩ = some (.bool r.wrap) := heap_cell bW 4
      have c5 : W.cell? ⟨w.heap.size, 5, none⟩ = some (.slice pd r.data.length cd) := heap_cell bW 5
      have c6 : W.cell? ⟨w.heap.size, 6, none⟩ = some (.slice pl r.lanes.length cl) := heap_cell bW 6
      have e2 := hat.out 3 (by kernel_rfl)
      simp [Act.eval] at e2
      clear bW
      simp only [execOp, e2]; go_simp
    refine ops_cons (gd rfl <| tx_call rfl (fun i ρ W _ hat hW => ?_)) ?_
    · have e1 : ρ (.tmp 41) = _ := hat.dep 41 (by kernel_rfl)
      have hf := hat.fn
      refine ⟨37, #[.agg #[.int .i64 r.id, .int .i64 r.kind, .int .i64 r.addr, .int .i64 r.many, .bool r.wrap, (.slice pd r.data.length cd), (.slice pl r.lanes.length cl)]], by simp only [execOp]; go_simp, ?_⟩
      refine (HT.out W (hx7.below hW)).mono ?_
      rintro e W' ⟨k1, k2, rfl, hR, _, _, hb⟩
      exact ⟨_, rfl, hW.trans (hb.mono hW.size), hb, k1, k2, rfl, hR⟩
    refine ops_cons (gd rfl <| tx_call rfl (fun i ρ W _ hat hW => ?_)) ?_
    · have e1 : ρ (.tmp 40) = _ := hat.dep 40 (by kernel_rfl)
      obtain ⟨k1, k2, e2, hR⟩ : kReq r W (ρ (.tmp 42)) := hat.dep 42 (by kernel_rfl)
      have hf := hat.fn
      refine ⟨38, #[.agg #[.int .i64 r.id, .int .i64 r.kind, .int .i64 r.addr, .int .i64 r.many, .bool r.wrap, (.slice (some ⟨g1, 0, none⟩) r.data.length r.data.length), (.slice (some ⟨g2, 0, none⟩) r.lanes.length r.lanes.length)], reqV r (some ⟨k1, 0, none⟩) r.data.length (some ⟨k2, 0, none⟩) r.lanes.length], by simp only [execOp]; go_simp, ?_⟩
      refine (eqReq_same r _ _ _ _ _ _ _ _ W (hR7.below hW) hR).mono ?_
      rintro e W' ⟨rfl, hb⟩
      exact ⟨_, rfl, hW.trans (hb.mono hW.size), hb, rfl⟩
    refine ops_cons (gd rfl <| tx_pure rfl rfl (fun _ _ h => h) Gr.refl (fun i ρ W hat hW => ?_)) ?_
    · have e1 : ρ (.tmp 43) = _ := hat.dep 43 (by kernel_rfl)
      simp only [execOp, e1]; go_simp
    exact ops_nil
  intro f W hW hf
  have e44 : f 44 = .bool false := hf 44 (by simp)
  clear hf
  have hbW := hb7'.trans (hW.mono hb7'.size)
  simp only [fill, e44]
  go_simp
  go_wp2
  go_ret
  exact ⟨rfl, hbW⟩

end Go.Proofs.Ytdjmjdljgdagcaa.fnExactReqSlave
