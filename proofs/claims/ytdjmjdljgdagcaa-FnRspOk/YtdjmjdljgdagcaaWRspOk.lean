/-
  The law FnRspOk, walked, by what RspOk of the program answers.
-/
import Derived.Test.YtdjmjdljgdagcaaProg
import Derived.Test.YtdjmjdljgdagcaaDrawRsp
import Derived.Test.YtdjmjdljgdagcaaCrOk
import Derived.Test.YtdjmjdljgdagcaaCtrQ
namespace Go.Proofs.Ytdjmjdljgdagcaa
open Go.RowKit
set_option linter.unusedSimpArgs false
set_option linter.unusedVariables false

theorem IntsAt.new {w : World} (ns : List Int) : IntsAt (w.alloc (.cells (ns.map (Value.int .i64)).toArray 3)) (some ⟨w.heap.size, 0, none⟩) ns :=
  .inr ⟨w.heap.size, 0, rfl, by simp, fun k hk => by simp [hk]⟩
theorem below_alloc (w : World) (o : Obj) : Below w.heap.size w (w.alloc o) := (Below.refl _ w).alloc (Nat.le_refl _) o

theorem rsp_five (i c : Int) : rspOkB ⟨i, c, [1, 2, 3, 4, 5]⟩ = false := by simp [rspOkB]
theorem rsp_big (i c : Int) : rspOkB ⟨i, c, [65536]⟩ = false := by simp [rspOkB, allIn, inB]
theorem rsp_four {r : Rsp} (h : rspOkB r = true) : r.data.length ≤ 4 := by simp [rspOkB] at h; exact h.2.2.1

/-- a variable of three cells, behind a call -/
theorem box3 {w w1 : World} {v0 v1 v2 : Value} {t : TypeId} (hb : Below (w.alloc (.cells #[v0, v1, v2] t)).heap.size (w.alloc (.cells #[v0, v1, v2] t)) w1) :
    w1.cell? ⟨w.heap.size, 0, none⟩ = some v0 ∧ w1.cell? ⟨w.heap.size, 1, none⟩ = some v1 ∧ w1.cell? ⟨w.heap.size, 2, none⟩ = some v2 := by
  have h : ∀ i, w1.cell? ⟨w.heap.size, i, none⟩ = #[v0, v1, v2][i]? := fun i => (hb.cell (p := ⟨w.heap.size, i, none⟩) (by simp)).trans (by simp)
  exact ⟨h 0, h 1, h 2⟩

set_option maxRecDepth 100000 in
set_option maxHeartbeats 2000000 in
theorem walkC_FnRspOk (hI : RspOkC) (a : Option Addr) (len cap : Nat) (w : World) (hc : len ≤ cap) (hm : cap ≤ 9223372036854775807) (h : Bytes w w.heap.size a len) :
    Calls Try.prog 6 #[.slice a len cap] w fun e w' => e = .returned (.bool true) ∧ Below w.heap.size w w' := by
  by_cases hl : 1048576 < len
  · have hI1 : (1048576 : Int) < (len : Int) := by omega
    clear h hI
    go_enter Try.func6, Try.ntmps6
    go_wp2
    go_ret
    exact ⟨rfl, Below.refl _ _⟩
  have hI1 : ¬ (1048576 : Int) < (len : Int) := by omega
  have HB := Hid.intro h
  have HC := Hid.intro hI
  clear h hI
  go_enter Try.func6, Try.ntmps6
  go_wp2_with fail
  refine (drawRspOk_any a len cap w hc hm HB.out).mono ?_
  rintro e w1 ⟨r, pd, c, rfl, hA1, hl10, hb1⟩
  have hs1 := hb1.size
  have H1 := Hid.intro (fun W h => HC.out r pd c W h)
  have H2 := Hid.intro (fun W h => spec_RspOk r pd c W h)
  unfold rspV at H1 H2 ⊢
  go_wp2_with fail
  refine (H1.out _ (hA1.below (below_alloc _ _))).mono ?_
  rintro e w2 ⟨rfl, hb2⟩
  obtain ⟨c0, c1, c2⟩ := box3 hb2
  have hs2 := hb2.size
  simp at hs2
  have hb2' := (hb1.trans ((below_alloc w1 _).mono hb1.size)).trans (hb2.mono (by simp; omega))
  have hA2 := (hA1.below (below_alloc _ _)).below hb2
  obtain ⟨A, hA⟩ : ∃ A, A = w1.heap.size := ⟨_, rfl⟩
  rw [← hA] at c0 c1 c2 hs2 ⊢
  clear hA hb2 hA1 hb1 hs1
  go_wp2_with fail
  refine (H2.out w2 hA2).mono ?_
  rintro e w3 ⟨rfl, hb3⟩
  have hs3 := hb3.size
  have d0 := (hb3.cell (p := ⟨A, 0, none⟩) (by simp; omega)).trans c0
  have d1 := (hb3.cell (p := ⟨A, 1, none⟩) (by simp; omega)).trans c1
  have d2 := (hb3.cell (p := ⟨A, 2, none⟩) (by simp; omega)).trans c2
  have hb3' := hb2'.trans (hb3.mono hb2'.size)
  have hA3 : A < w3.heap.size := by omega
  clear hb3 c0 c1 c2 hb2' hA2 H1 H2
  cases hok : rspOkB r
  · go_wp2_with (go_at_call 19; refine (crOk_any _).mono ?_; rintro e w' ⟨rfl, rfl⟩)
    go_ret
    exact ⟨rfl, hb3'⟩
  have h4 := rsp_four hok
  have h4I : (r.data.length : Int) ≤ 4 := by omega
  have hs3' : w3.heap.size ≤ w3.heap.size := Nat.le_refl _
  go_wp2_with fail
  refine (HC.out ⟨r.id, r.code, [1, 2, 3, 4, 5]⟩ (some ⟨w3.heap.size + 1, 0, none⟩) 5 _ ⟨?_, by simp, by simp⟩).mono ?_
  · refine IntsAt.below (IntsAt.below (w := (w3.alloc _).alloc _) ?_ (below_alloc _ _)) (below_alloc _ _)
    have := IntsAt.new (w := w3.alloc (.cells #[.int .i64 r.id, .int .i64 r.code, .slice (some ⟨w3.heap.size + 1, 0, none⟩) 5 5] 46)) [1, 2, 3, 4, 5]
    simpa using this
  rintro e w4 ⟨rfl, hb4⟩
  rw [rsp_five]
  have hs4 := hb4.size
  simp at hs4
  have e2 : w4.cell? ⟨A, 2, none⟩ = some (.slice pd r.data.length c) := (hb4.cell (p := ⟨A, 2, none⟩) (by simp; omega)).trans ((World.cell?_alloc_past _ _ _ (by simp; omega)).trans ((World.cell?_alloc_past _ _ _ (by simp; omega)).trans ((World.cell?_alloc_past _ _ _ (by simp; omega)).trans ((World.cell?_alloc_past _ _ _ hA3).trans d2))))
  have y : ∀ i, w4.cell? ⟨w3.heap.size + 1 + 1, i, none⟩ = #[.int .i64 r.id, .int .i64 r.code, .slice (some ⟨w3.heap.size + 1 + 1 + 1, 0, none⟩) 1 1][i]? := fun i => (hb4.cell (p := ⟨w3.heap.size + 1 + 1, i, none⟩) (by simp)).trans ((World.cell?_alloc_past _ _ _ (by simp)).trans (World.cell?_alloc_at _ _ _ _ (by simp)))
  have y0 := y 0
  have y1 := y 1
  have y2 := y 2
  simp at y0 y1 y2
  have hR1 : IntsAt w4 (some ⟨w3.heap.size + 1 + 1 + 1, 0, none⟩) [65536] := by
    refine IntsAt.below (w := ((w3.alloc _).alloc _).alloc _ |>.alloc _) ?_ hb4
    have := IntsAt.new (w := ((w3.alloc (.cells #[.int .i64 r.id, .int .i64 r.code, .slice (some ⟨w3.heap.size + 1, 0, none⟩) 5 5] 46)).alloc (.cells #[.int .i64 1, .int .i64 2, .int .i64 3, .int .i64 4, .int .i64 5] 3)).alloc (.cells #[.int .i64 r.id, .int .i64 r.code, .slice (some ⟨w3.heap.size + 1 + 1 + 1, 0, none⟩) 1 1] 46)) [65536]
    simpa using this
  have hb4' : Below w.heap.size w w4 := ((((hb3'.alloc hb3'.size _).alloc (by have := hb3'.size; simp; omega) _).alloc (by have := hb3'.size; simp; omega) _).alloc (by have := hb3'.size; simp; omega) _).trans (hb4.mono (by have := hb3'.size; simp; omega))
  clear hb4 hb3' y
  obtain ⟨Y, hY⟩ : ∃ Y, Y = w3.heap.size + 1 + 1 := ⟨_, rfl⟩
  rw [← hY] at y0 y1 y2 hR1 ⊢
  have hYl : Y < w4.heap.size := by omega
  have hAl : A < w4.heap.size := by omega
  clear hY hs4 hs3 hs2
  go_wp2_with fail
  refine (HC.out ⟨r.id, r.code, [65536]⟩ (some ⟨Y + 1, 0, none⟩) 1 w4 ⟨hR1, by simp, by simp⟩).mono ?_
  rintro e w5 ⟨rfl, hb5⟩
  rw [rsp_big]
  have f2 := (hb5.cell (p := ⟨A, 2, none⟩) hAl).trans e2
  have hb5' := hb4'.trans (hb5.mono hb4'.size)
  clear hb5 hb4' HC HB
  go_wp2
  go_ret
  exact ⟨rfl, hb5'⟩

end Go.Proofs.Ytdjmjdljgdagcaa
