/-
  l5Rsp of the model: what came of something, in new memory.
-/
import Derived.Test.YtpjfkimgienkbabKTlmJob
import Derived.Test.YtpjfkimgienkbabKndC
import Derived.Test.YtpjfkimgienkbabKndX
import Derived.Test.YtpjfkimgienkbabTypedL
namespace Go.Proofs.Ytpjfkimgienkbab
open Go.RowKit
set_option linter.unusedSimpArgs false
set_option linter.unusedVariables false

theorem nw_below (w : World) (o : Obj) : Below w.heap.size w (w.alloc o) := (Below.refl _ w).alloc (Nat.le_refl _) o
def kEmp : World → Value → Prop := fun w v => ∃ g, v = .slice (some ⟨g, 0, none⟩) 0 0 ∧ w.heap[g]? = some (.cells #[] 3 (0, 0))
def kCpI (M : Nat) (ys : List Int) : World → Value → Prop := fun w v => ∃ p c, v = .slice p ys.length c ∧ Fresh yI M w ⟨p, c, ys⟩
def kRspC (M : Nat) (i0 i1 : Int) (ys : List Int) : World → Value → Prop := fun w v => ∃ p c, v = .agg #[.int .i64 i0, .int .i64 i1, .slice p ys.length c] ∧ Fresh yI M w ⟨p, c, ys⟩
theorem kEmp_gr {w w' : World} {v : Value} (hg : Gr w w') (h : kEmp w v) : kEmp w' v := by obtain ⟨g, e, h1⟩ := h; exact ⟨g, e, hg.cells h1⟩
theorem kCpI_gr {M : Nat} {ys : List Int} {w w' : World} {v : Value} (hg : Gr w w') (h : kCpI M ys w v) : kCpI M ys w' v := by obtain ⟨p, c, e, h1⟩ := h; exact ⟨p, c, e, h1.below yI_law hg⟩
theorem kRspC_gr {M : Nat} {i0 i1 : Int} {ys : List Int} {w w' : World} {v : Value} (hg : Gr w w') (h : kRspC M i0 i1 ys w v) : kRspC M i0 i1 ys w' v := by obtain ⟨p, c, e, h1⟩ := h; exact ⟨p, c, e, h1.below yI_law hg⟩

set_option maxRecDepth 100000 in
set_option maxHeartbeats 2000000 in
theorem spec_l5Rsp (q : Int × Int × Lst Int) (w : World) (hr : yRspRsp.rd w q) (hl : q.2.2.l.length ≤ 2000000) :
    Calls Try.prog 29 #[yRspRsp.val q] w fun e w' => ∃ p c, e = .returned (.agg #[.int .i64 q.1, .int .i64 q.2.1, .slice p q.2.2.l.length c]) ∧ Fresh yI w.heap.size w' ⟨p, c, q.2.2.l⟩ ∧ Below w.heap.size w w' := by
  obtain ⟨i0, i1, d⟩ := q
  have hbl : ∀ o o', Below w.heap.size w ((w.alloc o).alloc o') := fun o o' => ((Below.refl _ w).alloc (Nat.le_refl _) o).alloc (by simp) o'
  have hd := yI_rd.1 (show yI.rd w d from hr.2.2)
  have HD := Hid.intro hd.2.2
  have HL := Hid.intro hl
  clear hd hr hl
  show Calls Try.prog 29 #[.agg #[.int .i64 i0, .int .i64 i1, .slice d.p d.l.length d.c]] w _
  go_enter Try.func29, Try.ntmps29
  go_wp2_with fail
  obtain ⟨W0, hW0⟩ : ∃ W0, (w.alloc (.cells #[.int .i64 i0, .int .i64 i1, .slice d.p d.l.length d.c] 60)).alloc (.cells #[.int .i64 0, .int .i64 0, .slice none 0 0] 60) = W0 := ⟨_, rfl⟩
  have b0 : Below w.heap.size w W0 := by rw [← hW0]; exact hbl _ _
  have bA : W0.heap[w.heap.size]? = some (.cells #[.int .i64 i0, .int .i64 i1, .slice d.p d.l.length d.c] 60 (0, 0)) := by rw [← hW0]; exact (Below.heap_alloc _ _ _ (by simp)).trans (nw_k _ rfl)
  have bR : W0.heap[w.heap.size + 1]? = some (.cells #[.int .i64 0, .int .i64 0, .slice none 0 0] 60 (0, 0)) := by rw [← hW0]; exact nw_k _ (by simp)
  have hsz : W0.heap.size = w.heap.size + 2 := by rw [← hW0]; simp
  rw [hW0]
  clear hW0 hbl
  have HDA := Hid.intro (HD.out.below b0)
  refine wp_region_then (by kernel_rfl) Gr (fun _ W => Below W0.heap.size W0 W)
    (tab [(3, kIs (.pointer (some ⟨w.heap.size, 0, none⟩))), (4, kIs (.int .i64 i0)), (5, kIs (.pointer (some ⟨w.heap.size, 1, none⟩))), (6, kIs (.int .i64 i1)), (7, kEmp), (8, kIs (.pointer (some ⟨w.heap.size, 2, none⟩))), (9, kIs (.slice d.p d.l.length d.c)), (10, kCpI w.heap.size d.l), (11, kRspC w.heap.size i0 i1 d.l)])
    9 _ [3, 4, 5, 6, 7, 8, 9, 10, 11] rfl rfl (by kernel_rfl) (by kernel_rfl) rfl (by kernel_rfl) ?_ ?_ ?_ ?_
  · refine tabR_stable ?_
    intro x hx
    simp only [List.mem_cons, List.not_mem_nil, or_false] at hx
    rcases hx with rfl | rfl | rfl | rfl | rfl | rfl | rfl | rfl | rfl
    all_goals intro w w' v hr hv
    all_goals first | exact hv | exact kEmp_gr hr hv | exact kCpI_gr hr hv | exact kRspC_gr hr hv
  · exact (Below.refl _ _).drew
  · have fa : ∀ (W : World), Below W0.heap.size W0 W → W.cell? ⟨w.heap.size, 0, none⟩ = some (.int .i64 i0) ∧ W.cell? ⟨w.heap.size, 1, none⟩ = some (.int .i64 i1) ∧ W.cell? ⟨w.heap.size, 2, none⟩ = some (.slice d.p d.l.length d.c) := fun W hW => by
      have hx := (hW.block w.heap.size (by omega)).trans bA
      exact ⟨heap_cell hx 0, heap_cell hx 1, heap_cell hx 2⟩
    refine ops_cons (gd rfl <| tx_pure rfl rfl (fun _ _ h => h) Gr.refl (fun i ρ W hat hW => ?_)) ?_
    · have e2 := hat.out 1 (by kernel_rfl)
      simp [Act.eval] at e2
      simp only [execOp, e2]; go_simp
    refine ops_cons (gd rfl <| tx_pure rfl rfl (fun _ _ h => h) Gr.refl (fun i ρ W hat hW => ?_)) ?_
    · have e2 : ρ (.tmp 3) = _ := hat.dep 3 (by kernel_rfl)
      have c0 := (fa W hW).1
      simp only [execOp, e2]; go_simp
    refine ops_cons (gd rfl <| tx_pure rfl rfl (fun _ _ h => h) Gr.refl (fun i ρ W hat hW => ?_)) ?_
    · have e2 := hat.out 1 (by kernel_rfl)
      simp [Act.eval] at e2
      simp only [execOp, e2]; go_simp
    refine ops_cons (gd rfl <| tx_pure rfl rfl (fun _ _ h => h) Gr.refl (fun i ρ W hat hW => ?_)) ?_
    · have e2 : ρ (.tmp 5) = _ := hat.dep 5 (by kernel_rfl)
      have c0 := (fa W hW).2.1
      simp only [execOp, e2]; go_simp
    refine ops_cons (gd rfl <| tx_val rfl (fun i ρ W _ hat hW => ?_)) ?_
    · exact ⟨.slice (some ⟨W.heap.size, 0, none⟩) 0 0, W.alloc (.cells #[] 3), by simp only [execOp]; go_simp, hW.trans ((nw_below W _).mono hW.size), nw_below W _, ⟨W.heap.size, rfl, nw_k _ rfl⟩⟩
    refine ops_cons (gd rfl <| tx_pure rfl rfl (fun _ _ h => h) Gr.refl (fun i ρ W hat hW => ?_)) ?_
    · have e2 := hat.out 1 (by kernel_rfl)
      simp [Act.eval] at e2
      simp only [execOp, e2]; go_simp
    refine ops_cons (gd rfl <| tx_pure rfl rfl (fun _ _ h => h) Gr.refl (fun i ρ W hat hW => ?_)) ?_
    · have e2 : ρ (.tmp 8) = _ := hat.dep 8 (by kernel_rfl)
      have c0 := (fa W hW).2.2
      simp only [execOp, e2]; go_simp
    refine ops_cons (gd rfl <| tx_val rfl (fun i ρ W _ hat hW => ?_)) ?_
    · obtain ⟨g, e1, hE⟩ : kEmp W (ρ (.tmp 7)) := hat.dep 7 (by kernel_rfl)
      have e2 : ρ (.tmp 9) = _ := hat.dep 9 (by kernel_rfl)
      refine tv_copyI (S := .tmp 7) (X := .tmp 9) rfl e1 (.inr ⟨g, rfl, hE⟩) e2 (HDA.out.below hW) HL.out (fun p' c' W' h1 h2 => ?_)
      exact ⟨hW.trans (h2.mono hW.size), h2, ⟨p', c', rfl, h1.2 _ (by have := hW.size; omega)⟩⟩
    refine ops_cons (gd rfl <| tx_val rfl (fun i ρ W _ hat hW => ?_)) ?_
    · have e1 : ρ (.tmp 4) = _ := hat.dep 4 (by kernel_rfl)
      have e2 : ρ (.tmp 6) = _ := hat.dep 6 (by kernel_rfl)
      obtain ⟨p, c, e3, hF⟩ : kCpI w.heap.size d.l W (ρ (.tmp 10)) := hat.dep 10 (by kernel_rfl)
      exact ⟨.agg #[.int .i64 i0, .int .i64 i1, .slice p d.l.length c], W, by simp only [execOp, e1, e2, e3]; go_simp, hW, Gr.refl _, ⟨p, c, rfl, hF⟩⟩
    exact ops_nil
  · intro f W hW hf
    obtain ⟨p, c, e11, hF⟩ : kRspC w.heap.size i0 i1 d.l W (f 11) := hf 11 (by simp)
    clear hf
    have bR' := (hW.block (w.heap.size + 1) (by omega)).trans bR
    have r0 : W.cell? ⟨w.heap.size + 1, 0, none⟩ = some (.int .i64 0) := heap_cell bR' 0
    have r1 : W.cell? ⟨w.heap.size + 1, 1, none⟩ = some (.int .i64 0) := heap_cell bR' 1
    have r2 : W.cell? ⟨w.heap.size + 1, 2, none⟩ = some (.slice none 0 0) := heap_cell bR' 2
    have g0 : W.frozen? ⟨w.heap.size + 1, 0, none⟩ = false := heap_free bR' 0
    have g1 : W.frozen? ⟨w.heap.size + 1, 1, none⟩ = false := heap_free bR' 1
    have g2 : W.frozen? ⟨w.heap.size + 1, 2, none⟩ = false := heap_free bR' 2
    have hf := heap_set (heap_set (heap_set bR' 0 (.int .i64 i0)) 1 (.int .i64 i1)) 2 (.slice p d.l.length c)
    have s0 := heap_cell hf 0
    have s1 := heap_cell hf 1
    have s2 := heap_cell hf 2
    simp at s0 s1 s2
    have hint : ∀ x ∈ yI.foot ⟨p, c, d.l⟩, x ≠ w.heap.size + 1 := fun x hx e => by
      obtain ⟨cur, E, hE, hb⟩ := yI_law.ow_ty hF.ow x hx
      subst e
      rw [bR'] at hb
      have : E = 3 := by simpa [yI, gLst, gInt] using hE
      injection hb with hb
      injection hb with _ hb
      rw [this] at hb
      exact absurd hb (by decide)
    have HB : Hid (Below w.heap.size w (((W.setCell ⟨w.heap.size + 1, 0, none⟩ (.int .i64 i0)).setCell ⟨w.heap.size + 1, 1, none⟩ (.int .i64 i1)).setCell ⟨w.heap.size + 1, 2, none⟩ (.slice p d.l.length c))) := Hid.intro ((((b0.trans (hW.mono b0.size)).setCell (p := ⟨w.heap.size + 1, 0, none⟩) (by simp) _).setCell (p := ⟨w.heap.size + 1, 1, none⟩) (by simp) _).setCell (p := ⟨w.heap.size + 1, 2, none⟩) (by simp) _)
    have HF : Hid (Fresh yI w.heap.size (((W.setCell ⟨w.heap.size + 1, 0, none⟩ (.int .i64 i0)).setCell ⟨w.heap.size + 1, 1, none⟩ (.int .i64 i1)).setCell ⟨w.heap.size + 1, 2, none⟩ (.slice p d.l.length c)) ⟨p, c, d.l⟩) := Hid.intro (hF.of yI_law (fun x hx => (heap_set_ne (hint x hx)).trans ((heap_set_ne (hint x hx)).trans (heap_set_ne (hint x hx)))))
    clear hf hF hint hW bR' bA bR HDA
    simp only [fill, e11]
    go_simp
    go_wp2
    refine bodyPost_ret (v := .agg #[.int .i64 i0, .int .i64 i1, .slice p d.l.length c]) (by simp [results, Try.results29, go_sem, s0, s1, s2]) rfl ⟨p, c, rfl, HF.out, HB.out⟩

end Go.Proofs.Ytpjfkimgienkbab
