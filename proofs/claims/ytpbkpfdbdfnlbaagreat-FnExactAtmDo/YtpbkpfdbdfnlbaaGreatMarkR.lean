/-
  Numbers put into what is asked, what came of it, and ranges; a copy of ranges that may be written.
-/
import Derived.Test.YtpbkpfdbdfnlbaaGreatAtmM
import Derived.Test.YtpbkpfdbdfnlbaaGreatRspM
import Derived.Test.YtpbkpfdbdfnlbaaGreatRows4
import Derived.Test.YtpbkpfdbdfnlbaaGreatReqT
import Derived.Test.YtpbkpfdbdfnlbaaGreatSpcA
namespace Go.Proofs.YtpbkpfdbdfnlbaaGreat
open Go.RowKit
set_option linter.unusedSimpArgs false
set_option linter.unusedVariables false

set_option maxHeartbeats 1000000 in
theorem toRows_own (a : Option Addr) (cap : Nat) (xs : List Rng) (w : World) (hx : RowOf w a xs) (hc : xs.length ≤ cap) (hm : cap ≤ 9223372036854775807) (hl : xs.length ≤ 1048576) :
    Calls Tryz.prog 9 #[.slice a xs.length cap] w fun e w' => e = .returned (.slice (some ⟨w.heap.size, 0, none⟩) xs.length xs.length) ∧ RowOf w' (some ⟨w.heap.size, 0, none⟩) xs ∧ Below w.heap.size w w' ∧ w.heap.size < w'.heap.size ∧ Part w' w.heap.size xs.length xs xs.length ∧ ∃ cs, w'.heap[w.heap.size]? = some (.cells cs 74 (0, 0)) := by
  obtain ⟨i0, hi, hz0, hz1, hz2⟩ := info_parts Tryz.infoRng
  have hmk : ∀ W : World, (Instr.makeSlice 40 (.int .i64 (xs.length : Int)) (.int .i64 (xs.length : Int))).run Tryz.prog W =
      .ok (.slice (some ⟨W.heap.size, 0, none⟩) xs.length xs.length) (W.alloc (.cells (madeCells (Value.agg #[.int .i64 0, .int .i64 0, .int .i64 0, .bool false]).cells (xs.length * 4)) 74)) := fun W => by
    have := run_make (P := Tryz.prog) W 40 74 i0 _ Tryz.underlying40 hi hz0 .i64 .i64 (xs.length : Int) (xs.length : Int) (by omega) (by omega) (by rw [hz2]; omega) (by omega)
    rw [hz1] at this
    simpa using this
  go_enter Tryz.func9, Tryz.ntmps9
  go_wp2
  have hp := Part.new (w := w) (xs := xs) (t := 74) (size_madeCells (Value.agg #[.int .i64 0, .int .i64 0, .int .i64 0, .bool false]).cells (xs.length * 4))
  have hbl0 : Below w.heap.size w (w.alloc (.cells (madeCells (Value.agg #[.int .i64 0, .int .i64 0, .int .i64 0, .bool false]).cells (xs.length * 4)) 74)) := (Below.refl _ w).alloc (Nat.le_refl _) _
  have hsz0 : w.heap.size < (w.alloc (.cells (madeCells (Value.agg #[.int .i64 0, .int .i64 0, .int .i64 0, .bool false]).cells (xs.length * 4)) 74)).heap.size := by simp
  clear hmk
  go_loopw [4] (fun i wr => ∃ k : Nat, k ≤ xs.length ∧ i = .int .i64 k ∧ Below w.heap.size w wr ∧ w.heap.size < wr.heap.size ∧ Part wr w.heap.size xs.length xs k ∧ ∃ cs, wr.heap[w.heap.size]? = some (.cells cs 74 (0, 0))) (fun i _ => xs.length - (intOf i).toNat)
  case atStart => exact ⟨0, Nat.zero_le _, rfl, hbl0, hsz0, hp, _, nw_at _ rfl⟩
  case round =>
    clear hp hbl0 hsz0
    obtain ⟨k, hk, rfl, hbl, hsz, hP, cs, hcs⟩ := hrel
    have HCS := Hid.intro hcs
    clear hcs
    by_cases hlt : k < xs.length
    · rcases hx with hx | ⟨b, off, rfl, hb, hcells⟩
      · subst hx; simp at hlt
      · obtain ⟨g0, g1, g2, g3⟩ := hcells k hlt
        have c0 := (hbl.cell (p := ⟨b, off + k * 4, none⟩) hb).trans g0
        have c1 := (hbl.cell (p := ⟨b, off + k * 4 + 1, none⟩) hb).trans g1
        have c2 := (hbl.cell (p := ⟨b, off + k * 4 + 2, none⟩) hb).trans g2
        have c3 := (hbl.cell (p := ⟨b, off + k * 4 + 3, none⟩) hb).trans g3
        clear g0 g1 g2 g3 hcells
        have hk0 : (0 : Int) ≤ (k : Int) := by omega
        have hk1 : (k : Int) < (xs.length : Int) := by omega
        go_wp2_with fail
        refine (toRange_any xs[k] _).mono ?_
        rintro e w1 ⟨rfl, hb1⟩
        have hP1 := hP.below hsz hb1
        have hbl1 : Below w.heap.size w w1 := hbl.trans (hb1.mono (by omega))
        have hsz1 : w.heap.size < w1.heap.size := Nat.lt_of_lt_of_le hsz hb1.size
        obtain ⟨u0, t0⟩ := hP1.there (k * 4) (by omega)
        obtain ⟨u1, t1⟩ := hP1.there (k * 4 + 1) (by omega)
        obtain ⟨u2, t2⟩ := hP1.there (k * 4 + 2) (by omega)
        obtain ⟨u3, t3⟩ := hP1.there (k * 4 + 3) (by omega)
        have f0 := hP1.free (k * 4)
        have f1 := hP1.free (k * 4 + 1)
        have f2 := hP1.free (k * 4 + 2)
        have f3 := hP1.free (k * 4 + 3)
        have hP2 := hP1.step hlt hlt
        have HC4 := Hid.intro (heap_set (heap_set (heap_set (heap_set ((hb1.block _ hsz).trans HCS.out) (k * 4) (.int .i64 xs[k].fr)) (k * 4 + 1) (.int .i64 xs[k].tt)) (k * 4 + 2) (.int .i64 xs[k].sl)) (k * 4 + 3) (.bool xs[k].only))
        have hbl2 := set4_below (o := k * 4) (r := xs[k]) hbl1 (Nat.le_refl _)
        clear hb1 c0 c1 c2 c3
        go_wp2
        go_roundw
        case rel => exact ⟨k + 1, by omega, by go_num, hbl2, by simpa using hsz1, hP2, _, HC4.out⟩
        case measure => simp [intOf]; omega
    · have hk' : k = xs.length := by omega
      subst hk'
      have hR := hP.row hsz
      go_wp2
      go_ret
      exact ⟨rfl, hR, hbl, hsz, hP, cs, HCS.out⟩

set_option maxHeartbeats 1000000 in
theorem markRows_any (N n c : Nat) (k0 : Int) (w : World) (hN : N < w.heap.size) (ht : ∀ o, o < n * 4 → ∃ u, w.cell? ⟨N, o, none⟩ = some u) (hf : ∀ o, w.frozen? ⟨N, o, none⟩ = false) (h0 : 0 ≤ k0) (h1 : k0 ≤ 1000000) (hn : n ≤ 10000000) :
    Calls Tryz.prog 17 #[.slice (some ⟨N, 0, none⟩) n c, .int .i64 k0] w fun e w' => e = .returned (.int .i64 (k0 + 4 * (n : Int))) ∧ Kept (fun k => k = N) w w' := by
  go_enter Tryz.func17, Tryz.ntmps17
  go_wp2
  go_loopw [5, 1] (fun i k wr => ∃ j : Nat, j ≤ n ∧ i = .int .i64 j ∧ k = .int .i64 (k0 + 4 * (j : Int)) ∧ Kept (fun k => k = N) w wr ∧ (∀ o, o < n * 4 → ∃ u, wr.cell? ⟨N, o, none⟩ = some u) ∧ (∀ o, wr.frozen? ⟨N, o, none⟩ = false)) (fun i _ _ => n - (intOf i).toNat)
  case atStart => exact ⟨0, Nat.zero_le _, rfl, by simp, Kept.refl _ _, ht, hf⟩
  case round =>
    clear ht hf
    obtain ⟨j, hj, rfl, rfl, hk, ht, hf⟩ := hrel
    by_cases hlt : j < n
    · have hj0 : (0 : Int) ≤ (j : Int) := by omega
      have hj1 : (j : Int) < (n : Int) := by omega
      obtain ⟨u0, t0⟩ := ht (j * 4) (by omega)
      obtain ⟨u1, t1⟩ := ht (j * 4 + 1) (by omega)
      obtain ⟨u2, t2⟩ := ht (j * 4 + 2) (by omega)
      obtain ⟨u3, t3⟩ := ht (j * 4 + 3) (by omega)
      have f0 := hf (j * 4)
      have f1 := hf (j * 4 + 1)
      have f2 := hf (j * 4 + 2)
      have f3 := hf (j * 4 + 3)
      have HT := Hid.intro ht
      have HF := Hid.intro hf
      have HK := Hid.intro hk
      clear ht hf hk
      go_wp2
      go_roundw
      case rel =>
        refine ⟨j + 1, by omega, by go_num, by go_num, ?_, fun o ho => ?_, fun o => ?_⟩
        · exact (((HK.out.trans (Kept.setCell (D := fun k => k = N) (p := ⟨N, _, none⟩) _ rfl _)).trans (Kept.setCell (D := fun k => k = N) (p := ⟨N, _, none⟩) _ rfl _)).trans (Kept.setCell (D := fun k => k = N) (p := ⟨N, _, none⟩) _ rfl _)).trans (Kept.setCell (D := fun k => k = N) (p := ⟨N, _, none⟩) _ rfl _)
        · obtain ⟨v0, g0⟩ := HT.out o ho
          obtain ⟨v1, g1⟩ := cell_isSome (o := j * 4) g0
          obtain ⟨v2, g2⟩ := cell_isSome (o := j * 4 + 1) g1
          obtain ⟨v3, g3⟩ := cell_isSome (o := j * 4 + 2) g2
          exact cell_isSome (o := j * 4 + 3) g3
        · simpa using HF.out o
      case measure => simp [intOf]; omega
    · have hj' : j = n := by omega
      subst hj'
      have hjn : ¬ (j : Int) < (j : Int) := by omega
      clear ht hf
      go_wp2
      go_ret
      exact ⟨rfl, hk⟩

set_option maxHeartbeats 1000000 in
theorem markAtmL_any (p q : Option Addr) (cp cq : Nat) (l m : List Int) (k0 : Int) (w : World) (h : OwnI w p cp l) (h' : OwnI w q cq m) (hpq : l = [] ∨ m = [] ∨ p ≠ q) (hk0 : 0 ≤ k0) (hk1 : k0 ≤ 5000000) (hl : l.length ≤ 1048576) (hm : m.length ≤ 1048576) (h1 : l.length ≤ cp) (h2 : cp ≤ 9223372036854775807) (h3 : m.length ≤ cq) (h4 : cq ≤ 9223372036854775807) :
    Calls Tryz.prog 18 #[.agg #[.slice p l.length cp, .slice q m.length cq], .int .i64 k0] w fun e w' => e = .returned (.int .i64 (k0 + (l.length : Int) + (m.length : Int))) ∧ OwnI w' p cp (markL k0 l.length) ∧ OwnI w' q cq (markL (k0 + (l.length : Int)) m.length) ∧ Kept (fun k => (l ≠ [] ∧ p = some ⟨k, 0, none⟩) ∨ (m ≠ [] ∧ q = some ⟨k, 0, none⟩)) w w' := by
  have hbl : ∀ o, Below w.heap.size w (w.alloc o) := fun o => (Below.refl _ w).alloc (Nat.le_refl _) o
  have H := Hid.intro h
  have H' := Hid.intro h'
  clear h h'
  go_enter Tryz.func18, Tryz.ntmps18
  go_wp2_with fail
  refine (markMem_own p cp l k0 _ (H.out.below (hbl _)) hk0 (by omega) (by omega) h1 h2).mono ?_
  rintro e w1 ⟨rfl, hO1, hk1'⟩
  have hs1 := hk1'.size
  simp at hs1
  have bA : w1.heap[w.heap.size]? = some (.cells #[.slice p l.length cp, .slice q m.length cq] 35 (0, 0)) := (hk1'.block _ (by simp) (fun e => by have := H.out.lt e.1 e.2; omega)).trans (nw_at _ rfl)
  have c1 : w1.cell? ⟨w.heap.size, 1, none⟩ = some (.slice q m.length cq) := heap_cell bA 1
  have hk1w := (Kept.of_below (D := fun k => l ≠ [] ∧ p = some ⟨k, 0, none⟩) (hbl _)).trans hk1'
  have hO1' := H'.out.kept hk1w (fun b hne hb hd => by rcases hpq with h | h | h; · exact hd.1 h
                                                       · exact hne h
                                                       · exact h (hd.2.trans hb.symm))
  have HO1 := Hid.intro hO1
  have HK1 := Hid.intro hk1w
  clear hO1 hk1' hk1w bA hbl
  go_wp2_with fail
  refine (mark_own q cq m (k0 + (l.length : Int)) w1 hO1' (by omega) (by omega) (by omega) h3 h4).mono ?_
  rintro e w2 ⟨rfl, hO2, hk2⟩
  have hL : l.length = 0 → l = [] := fun h => List.length_eq_zero_iff.1 h
  have HO2 : Hid (OwnI w2 p cp (markL k0 l.length)) := Hid.intro (HO1.out.kept hk2 (fun b hne hb hd => by
    rcases hpq with h | h | h
    · rw [h] at hne; exact hne (markL_nil k0)
    · exact hd.1 h
    · exact h (hb.trans hd.2.symm)))
  have HK2 : Hid (Kept (fun k => (l ≠ [] ∧ p = some ⟨k, 0, none⟩) ∨ (m ≠ [] ∧ q = some ⟨k, 0, none⟩)) w w2) := Hid.intro ((HK1.out.mono (fun k e => Or.inl e)).trans (hk2.mono (fun k e => Or.inr e)))
  have HO3 := Hid.intro hO2
  clear hO2 hk2 hO1' HO1 HK1
  go_wp2
  go_ret
  exact ⟨rfl, HO2.out, HO3.out, HK2.out⟩


set_option maxHeartbeats 1000000 in
theorem markRsp_any (p : Option Addr) (cp : Nat) (l : List Int) (i0 i1 k0 : Int) (w : World) (h : OwnI w p cp l) (hk0 : 0 ≤ k0) (hk1 : k0 ≤ 1000000) (hl : l.length ≤ 1000000) (h1 : l.length ≤ cp) (h2 : cp ≤ 9223372036854775807) :
    Calls Tryz.prog 20 #[.agg #[.int .i64 i0, .int .i64 i1, .slice p l.length cp], .int .i64 k0] w fun e w' => e = .returned (.int .i64 (k0 + (l.length : Int))) ∧ OwnI w' p cp (markL k0 l.length) ∧ Kept (fun k => l ≠ [] ∧ p = some ⟨k, 0, none⟩) w w' := by
  have hbl : ∀ o, Below w.heap.size w (w.alloc o) := fun o => (Below.refl _ w).alloc (Nat.le_refl _) o
  have H := Hid.intro h
  clear h
  go_enter Tryz.func20, Tryz.ntmps20
  go_wp2_with fail
  refine (mark_own p cp l k0 _ (H.out.below (hbl _)) (by omega) (by omega) (by omega) h1 h2).mono ?_
  rintro e w1 ⟨rfl, hO1, hk1'⟩
  have hk := (Kept.of_below (D := fun k => l ≠ [] ∧ p = some ⟨k, 0, none⟩) (hbl _)).trans hk1'
  have HO := Hid.intro (And.intro hO1 hk)
  clear hO1 hk1' hk hbl
  go_wp2
  go_ret
  exact ⟨rfl, HO.out.1, HO.out.2⟩

set_option maxHeartbeats 1000000 in
theorem heldRsp_any (p : Option Addr) (cp n : Nat) (i0 i1 k0 : Int) (w : World) (h : IntsAt w p (markL k0 n)) (hk0 : 0 ≤ k0) (hk1 : k0 ≤ 1000000000) (hl : n ≤ 1000000) (h1 : n ≤ cp) (h2 : cp ≤ 9223372036854775807) :
    Calls Tryz.prog 22 #[.agg #[.int .i64 i0, .int .i64 i1, .slice p n cp], .int .i64 k0] w fun e w' => e = .returned (.int .i64 (k0 + (n : Int))) ∧ Below w.heap.size w w' := by
  have hbl : ∀ o, Below w.heap.size w (w.alloc o) := fun o => (Below.refl _ w).alloc (Nat.le_refl _) o
  have hI : ¬ (k0 + (n : Int) < 0) := by omega
  go_enter Tryz.func22, Tryz.ntmps22
  go_wp2_with fail
  refine (held_gen p cp n k0 _ (h.below (hbl _)) (by omega) (by omega) (by omega) h1 h2).mono ?_
  rintro e w1 ⟨rfl, hw⟩
  subst hw
  go_wp2
  go_ret
  exact ⟨rfl, hbl _⟩

set_option maxRecDepth 100000 in
set_option maxHeartbeats 1000000 in
theorem markReq_any (r : Req) (p q : Option Addr) (cp cq : Nat) (k0 : Int) (w : World) (h : OwnI w p cp r.data) (h' : OwnI w q cq r.lanes) (hpq : r.data = [] ∨ r.lanes = [] ∨ p ≠ q) (hk0 : 0 ≤ k0) (hk1 : k0 ≤ 5000000) (hl : r.data.length ≤ 1048576) (hm : r.lanes.length ≤ 1048576) (h1 : r.data.length ≤ cp) (h2 : cp ≤ 9223372036854775807) (h3 : r.lanes.length ≤ cq) (h4 : cq ≤ 9223372036854775807) :
    Calls Tryz.prog 19 #[reqV r p cp q cq, .int .i64 k0] w fun e w' => e = .returned (.int .i64 (k0 + (r.data.length : Int) + (r.lanes.length : Int))) ∧ Kept (fun k => (r.data ≠ [] ∧ p = some ⟨k, 0, none⟩) ∨ (r.lanes ≠ [] ∧ q = some ⟨k, 0, none⟩)) w w' := by
  have hbl : ∀ o, Below w.heap.size w (w.alloc o) := fun o => (Below.refl _ w).alloc (Nat.le_refl _) o
  have H := Hid.intro h
  have H' := Hid.intro h'
  clear h h'
  unfold reqV
  go_enter Tryz.func19, Tryz.ntmps19
  go_wp2_with fail
  refine (mark_own p cp r.data k0 _ (H.out.below (hbl _)) hk0 (by omega) (by omega) h1 h2).mono ?_
  rintro e w1 ⟨rfl, hO1, hk1'⟩
  have hs1 := hk1'.size
  simp at hs1
  have bA : w1.heap[w.heap.size]? = some (.cells #[.int .i64 r.id, .int .i64 r.kind, .int .i64 r.addr, .int .i64 r.many, .bool r.wrap, .slice p r.data.length cp, .slice q r.lanes.length cq] 43 (0, 0)) := (hk1'.block _ (by simp) (fun e => by have := H.out.lt e.1 e.2; omega)).trans (nw_at _ rfl)
  have c1 : w1.cell? ⟨w.heap.size, 6, none⟩ = some (.slice q r.lanes.length cq) := heap_cell bA 6
  have hk1w := (Kept.of_below (D := fun k => r.data ≠ [] ∧ p = some ⟨k, 0, none⟩) (hbl _)).trans hk1'
  have hO1' := H'.out.kept hk1w (fun b hne hb hd => by rcases hpq with h | h | h; · exact hd.1 h
                                                       · exact hne h
                                                       · exact h (hd.2.trans hb.symm))
  have HK1 := Hid.intro hk1w
  clear hO1 hk1' hk1w bA hbl
  go_wp2_with fail
  refine (mark_own q cq r.lanes (k0 + (r.data.length : Int)) w1 hO1' (by omega) (by omega) (by omega) h3 h4).mono ?_
  rintro e w2 ⟨rfl, hO2, hk2⟩
  have HK2 : Hid (Kept (fun k => (r.data ≠ [] ∧ p = some ⟨k, 0, none⟩) ∨ (r.lanes ≠ [] ∧ q = some ⟨k, 0, none⟩)) w w2) := Hid.intro ((HK1.out.mono (fun k e => Or.inl e)).trans (hk2.mono (fun k e => Or.inr e)))
  clear hO2 hk2 hO1' HK1
  go_wp2
  go_ret
  exact ⟨rfl, HK2.out⟩

end Go.Proofs.YtpbkpfdbdfnlbaaGreat
