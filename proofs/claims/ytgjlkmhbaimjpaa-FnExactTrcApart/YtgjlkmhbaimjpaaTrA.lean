/-
  What is apart, as Lean functions; l9Meet of the model.
-/
import Derived.Test.YtgjlkmhbaimjpaaApSM
import Derived.Test.YtgjlkmhbaimjpaaIRow
import Derived.BigQuiet
namespace Go.Proofs.Ytgjlkmhbaimjpaa
open Go.RowKit
set_option linter.unusedSimpArgs false
set_option linter.unusedVariables false

def lenP (z : ((List (Int × Int × Int × Bool)) × (List Int) × (List (List (Int × Int × Int × Int × Bool × (List Int) × (List Int)))))) (who : Int) : Int := ((z.2.2.getD who.toNat []).length : Int)
/-- a Kind of something that is asked -/
def doesP (z : ((List (Int × Int × Int × Bool)) × (List Int) × (List (List (Int × Int × Int × Int × Bool × (List Int) × (List Int)))))) (e : Int × Int × Int) : Bool := inB e.1 1 3 && (inB e.2.1 0 2 && inB e.2.2 0 (lenP z e.2.1 - 1))
def askedP (z : ((List (Int × Int × Int × Bool)) × (List Int) × (List (List (Int × Int × Int × Int × Bool × (List Int) × (List Int)))))) (who n : Int) : Req := reqOf ((z.2.2.getD who.toNat []).getD n.toNat (0, 0, 0, 0, false, [], []))
def meetP (a b : Req) : Bool := (burst a.addr a.many a.wrap).any (fun x => (burst b.addr b.many b.wrap).any (fun y => x == y))
def apartP (z : ((List (Int × Int × Int × Bool)) × (List Int) × (List (List (Int × Int × Int × Int × Bool × (List Int) × (List Int)))))) (a b : Int × Int × Int) : Bool := !(a.2.1 == b.2.1 || (a.1 == 3 && b.1 == 3)) && (!(a.1 == 2) || (!(b.1 == 2) || !meetP (askedP z a.2.1 a.2.2) (askedP z b.2.1 b.2.2)))
def trcApartP (z : ((List (Int × Int × Int × Bool)) × (List Int) × (List (List (Int × Int × Int × Int × Bool × (List Int) × (List Int)))))) (a b : Int × Int × Int) : Bool := busOkP z && (doesP z a && (doesP z b && apartP z a b))

theorem any_step {α : Type} {p : α → Bool} {l : List α} {k : Nat} (hk : k < l.length) (h : (l.take k).any p = false) (h' : p l[k] = false) : (l.take (k + 1)).any p = false := by
  rw [List.take_succ_eq_append_getElem hk, List.any_append, h]; simp [h']
theorem any_hit {α : Type} {p : α → Bool} {l : List α} {k : Nat} (hk : k < l.length) (h' : p l[k] = true) : l.any p = true := List.any_eq_true.2 ⟨l[k], List.getElem_mem hk, h'⟩
theorem any_end {α : Type} {p : α → Bool} {l : List α} {k : Nat} (hk : l.length ≤ k) (h : (l.take k).any p = false) : l.any p = false := by rwa [List.take_of_length_le hk] at h

set_option maxRecDepth 100000 in
set_option maxHeartbeats 4000000 in
theorem l9Meet_any (q r : (Int × Int × Int × Int × Bool × (Lst Int) × (Lst Int))) (w : World) :
    Calls Try.prog 113 #[yReqReq.val q, yReqReq.val r] w fun e w' => e = .returned (.bool (meetP (reqOf (yReqReq.pl q)) (reqOf (yReqReq.pl r)))) ∧ Below w.heap.size w w' := by
  obtain ⟨q_0, q_1, q_2, q_3, q_4, q_5, q_6⟩ := q
  obtain ⟨r_0, r_1, r_2, r_3, r_4, r_5, r_6⟩ := r
  have hbl : ∀ o o', Below w.heap.size w ((w.alloc o).alloc o') := fun o o' => ((Below.refl _ w).alloc (Nat.le_refl _) o).alloc (by simp) o'
  have HM : Hid (meetP (reqOf (yReqReq.pl (q_0, q_1, q_2, q_3, q_4, q_5, q_6))) (reqOf (yReqReq.pl (r_0, r_1, r_2, r_3, r_4, r_5, r_6))) = (burst q_2 q_3 q_4).any (fun x => (burst r_2 r_3 r_4).any (fun y => x == y))) := Hid.intro rfl
  show Calls Try.prog 113 #[.agg #[.int .i64 q_0, .int .i64 q_1, .int .i64 q_2, .int .i64 q_3, .bool q_4, .slice q_5.p q_5.l.length q_5.c, .slice q_6.p q_6.l.length q_6.c], .agg #[.int .i64 r_0, .int .i64 r_1, .int .i64 r_2, .int .i64 r_3, .bool r_4, .slice r_5.p r_5.l.length r_5.c, .slice r_6.p r_6.l.length r_6.c]] w _
  go_enter Try.func113, Try.ntmps113
  go_wp2_with fail
  refine (spec_AdrBurst q_2 q_3 q_4 _).mono ?_
  rintro e w1 ⟨g, cg, rfl, hg, hgl, hg1, hg2, hb⟩
  have bel0 : Below w.heap.size w w1 := (hbl _ _).trans (hb.mono (hbl _ _).size)
  have bB : w1.heap[w.heap.size + 1]? = some (.cells #[.int .i64 r_0, .int .i64 r_1, .int .i64 r_2, .int .i64 r_3, .bool r_4, .slice r_5.p r_5.l.length r_5.c, .slice r_6.p r_6.l.length r_6.c] 107 (0, 0)) := (hb.block _ (by simp)).trans (nw_k _ (by simp))
  have cr0 : w1.cell? ⟨w.heap.size + 1, 0, none⟩ = some (.int .i64 r_0) := heap_cell bB 0
  have cr1 : w1.cell? ⟨w.heap.size + 1, 1, none⟩ = some (.int .i64 r_1) := heap_cell bB 1
  have cr2 : w1.cell? ⟨w.heap.size + 1, 2, none⟩ = some (.int .i64 r_2) := heap_cell bB 2
  have cr3 : w1.cell? ⟨w.heap.size + 1, 3, none⟩ = some (.int .i64 r_3) := heap_cell bB 3
  have cr4 : w1.cell? ⟨w.heap.size + 1, 4, none⟩ = some (.bool r_4) := heap_cell bB 4
  have cr5 : w1.cell? ⟨w.heap.size + 1, 5, none⟩ = some (.slice r_5.p r_5.l.length r_5.c) := heap_cell bB 5
  have cr6 : w1.cell? ⟨w.heap.size + 1, 6, none⟩ = some (.slice r_6.p r_6.l.length r_6.c) := heap_cell bB 6
  clear hb hgl hbl
  obtain ⟨xs, hxs⟩ : ∃ xs, xs = burst q_2 q_3 q_4 := ⟨_, rfl⟩
  rw [← hxs] at hg hg1 HM ⊢
  clear hxs
  go_wp2_with fail
  refine (spec_AdrBurst r_2 r_3 r_4 _).mono ?_
  rintro e w2 ⟨h, ch, rfl, hh, hhl, hh1, hh2, hb⟩
  obtain ⟨ys, hys⟩ : ∃ ys, ys = burst r_2 r_3 r_4 := ⟨_, rfl⟩
  rw [← hys] at hh hh1 HM ⊢
  have BEL := Hid.intro (bel0.trans (hb.mono bel0.size))
  have HX := Hid.intro (hg.below hb)
  have HY := Hid.intro hh
  clear hys hb hg hh bel0 bB hhl cr0 cr1 cr2 cr3 cr4 cr5 cr6
  go_wp2
  go_loopw [7] (fun i wr => ∃ k : Nat, k ≤ xs.length ∧ i = .int .i64 k ∧ Below w2.heap.size w2 wr ∧ Hid ((xs.take k).any (fun x => ys.any (fun y => x == y)) = false)) (fun i _ => xs.length - (intOf i).toNat)
  case atStart => exact ⟨0, Nat.zero_le _, rfl, Below.refl _ _, Hid.intro rfl⟩
  case round =>
    obtain ⟨k, hk, rfl, hbl, HF⟩ := hrel
    by_cases hlt : k < xs.length
    rotate_left
    · have HE := Hid.intro (any_end (l := xs) (k := k) (by omega) HF.out)
      have hn : ¬ ((k : Int) < (xs.length : Int)) := by omega
      go_wp2
      go_ret
      exact ⟨by rw [HM.out, HE.out]; rfl, BEL.out.trans (hbl.mono BEL.out.size)⟩
    have hk0 : (0 : Int) ≤ (k : Int) := by omega
    have hk1 : (k : Int) < (xs.length : Int) := by omega
    have HS := Hid.intro (fun h => any_step (p := fun x => ys.any (fun y => x == y)) hlt HF.out h)
    have HH := Hid.intro (fun h => any_hit (p := fun x => ys.any (fun y => x == y)) hlt h)
    have HXC : Hid (∀ W, Below w2.heap.size w2 W → g < W.heap.size ∧ W.cell? ⟨g, k, none⟩ = some (.int .i64 xs[k])) := Hid.intro (fun W hW => by
      rcases HX.out with h0 | ⟨b, off, e, hb, hc⟩
      · rw [h0] at hlt; simp at hlt
      · cases e
        have := hc k hlt
        rw [Nat.zero_add] at this
        exact ⟨Nat.lt_of_lt_of_le hb hW.size, (hW.cell (p := ⟨g, k, none⟩) hb).trans this⟩)
    generalize xs[k] = x at HS HH HXC
    clear HF
    go_wp2
    go_loopw [8] (fun i wr => ∃ j : Nat, j ≤ ys.length ∧ i = .int .i64 j ∧ Below w2.heap.size w2 wr ∧ Hid ((ys.take j).any (fun y => x == y) = false)) (fun i _ => ys.length - (intOf i).toNat)
    case atStart => exact ⟨0, Nat.zero_le _, rfl, hbl, Hid.intro rfl⟩
    case round =>
      clear hbl
      obtain ⟨j, hj, rfl, hbw, HF⟩ := hrel
      by_cases hjt : j < ys.length
      rotate_left
      · have HE := Hid.intro (HS.out (any_end (l := ys) (k := j) (by omega) HF.out))
        have hn : ¬ ((j : Int) < (ys.length : Int)) := by omega
        clear HF
        go_wp2
        go_roundw
        case rel => exact ⟨k + 1, by omega, by go_num, hbw, HE⟩
        case measure => simp [intOf]; omega
      have hj0 : (0 : Int) ≤ (j : Int) := by omega
      have hj1 : (j : Int) < (ys.length : Int) := by omega
      have HS2 := Hid.intro (fun h => any_step (p := fun y => x == y) hjt HF.out h)
      have HH2 := Hid.intro (fun h => HH.out (any_hit (p := fun y => x == y) hjt h))
      have hxc := (HXC.out wr hbw).2
      have hyc : wr.cell? ⟨h, j, none⟩ = some (.int .i64 ys[j]) := by
        rcases HY.out with h0 | ⟨b, off, e, hb, hc⟩
        · rw [h0] at hjt; simp at hjt
        · cases e
          have := hc j hjt
          rw [Nat.zero_add] at this
          exact (hbw.cell (p := ⟨h, j, none⟩) hb).trans this
      generalize ys[j] = y at HS2 HH2 hyc
      clear HF
      go_wp2_with fail
      go_quiet (fail)
      have hb9 : Below w2.heap.size w2 (wr.drewN nq) := below_drewN hbw nq
      clear hxc hyc hbw
      cases hxy : (x == y)
      · have HN := Hid.intro (HS2.out hxy)
        have hne : ¬ (x = y) := by simpa using hxy
        go_wp2
        go_roundw
        case rel => exact ⟨j + 1, by omega, by go_num, hb9, HN⟩
        case measure => simp [intOf]; omega
      · have HN := Hid.intro (HH2.out hxy)
        have he : x = y := by simpa using hxy
        subst he
        go_wp2
        go_ret
        exact ⟨by rw [HM.out, HN.out]; rfl, BEL.out.trans (hb9.mono BEL.out.size)⟩

end Go.Proofs.Ytgjlkmhbaimjpaa
