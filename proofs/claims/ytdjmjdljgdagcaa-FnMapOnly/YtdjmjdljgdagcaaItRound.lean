/-
  roundAbout's iterator: an iterator that ranges over an iterator.
-/
import Derived.Test.YtdjmjdljgdagcaaItRow
import Derived.Test.YtdjmjdljgdagcaaDetIn
namespace Go.Proofs.Ytdjmjdljgdagcaa
open Go.RowKit Go.Shelf
set_option linter.unusedSimpArgs false
set_option linter.unusedVariables false
attribute [local go_sem] Oper.semAt_some

theorem cell_al {W : World} {a : Addr} {v : Value} (o : Obj) (h : W.cell? a = some v) : (W.alloc o).cell? a = some v := cell_kept h (World.grownBy_alloc W o none) (fun r e => by cases e)
theorem Kept.below {D : Nat → Prop} {A B C : World} {M : Nat} (h : Kept D A B) (hb : Below M B C) (hM : A.heap.size ≤ M) : Kept D A C :=
  ⟨hb.os.trans h.os, hb.tape.trans h.tape, hb.output.trans h.output, Nat.le_trans h.size hb.size, fun k hk hd => (hb.block k (by omega)).trans (h.block k hk hd)⟩

def rf (l : Nat) (fst x : Int) (n : Nat) : Nat → Value
  | 13 => .func (.yield l) #[] #[]
  | 14 => .int .i64 fst
  | 15 => .int .i64 x
  | 16 => .int .i64 fst
  | 17 => .int .i64 (x - fst)
  | 18 => .int .i64 n
  | 19 => .int .i64 ((x - fst) % (n : Int))
  | 20 => .int .i64 (fst + (x - fst) % (n : Int))
  | 21 => .bool true
  | 22 => .bool false
  | _ => undef

theorem wrap_small (y : Int) (h0 : 0 ≤ y) (h1 : y ≤ 70) : IntKind.i64.wrap y = y := by
  rw [IntKind.wrap_i64]; omega
theorem fst_nonneg (a : Int) (n : Nat) (ha : 0 ≤ a) : 0 ≤ a - a % (n : Int) := by
  have h1 := Int.mul_ediv_add_emod a (n : Int)
  have h2 : 0 ≤ a / (n : Int) := Int.ediv_nonneg ha (by omega)
  have h3 : 0 ≤ (n : Int) * (a / (n : Int)) := Int.mul_nonneg (by omega) h2
  omega

def rnd (a : Int) (n : Nat) (x : Int) : Int := (a - a % (n : Int)) + (x - (a - a % (n : Int))) % (n : Int)
theorem rowL_mem {a : Int} {n : Nat} {pre : List Int} {x : Int} (h : pre ++ [x] <+: rowL a n) : a ≤ x ∧ x < a + n := by
  obtain ⟨t, ht⟩ := h
  have hx : x ∈ rowL a n := by rw [← ht]; simp
  simp [rowL] at hx
  obtain ⟨k, hk, rfl⟩ := hx
  omega

set_option maxRecDepth 100000 in
set_option maxHeartbeats 400000 in
theorem round1_it (a : Int) (n ba bm : Nat) (ha : 0 ≤ a) (ha2 : a ≤ 63) (hn : 1 ≤ n) (hn4 : n ≤ 4) :
    ItOk Try.prog 82 #[.pointer (some ⟨ba, 0, none⟩), .pointer (some ⟨bm, 0, none⟩)] (Value.int .i64)
      (fun W => W.cell? ⟨ba, 0, none⟩ = some (.int .i64 a) ∧ W.cell? ⟨bm, 0, none⟩ = some (.int .i64 n)) (fun k => k = ba ∨ k = bm) ((rowL a n).map (rnd a n)) := by
  intro D l J W hD hCB hcap hJ hY h0 n'
  obtain ⟨hca, hcm⟩ := hcap
  have hba := hCB ba (.inl rfl)
  have hbm := hCB bm (.inr rfl)
  have q1 : (0 : Int) ≤ a % (n : Int) := Int.emod_nonneg _ (by omega)
  have q2 : a % (n : Int) < (n : Int) := Int.emod_lt_of_pos _ (by omega)
  obtain ⟨fst, hfst⟩ : ∃ fst, a - a % (n : Int) = fst := ⟨_, rfl⟩
  have f1 : -4 ≤ fst := by omega
  have f2 : fst ≤ 63 := by omega
  have hca1 : (W.alloc (.cells #[.func (.yield l) #[] #[]] 112)).cell? ⟨ba, 0, none⟩ = some (.int .i64 a) := cell_al _ hca
  have hcm1 : (W.alloc (.cells #[.func (.yield l) #[] #[]] 112)).cell? ⟨bm, 0, none⟩ = some (.int .i64 n) := cell_al _ hcm
  refine callsIn_of_wp_marks Try.func82 rfl trivial ?_ rfl
  simp only [Try.ntmps82, List.size_toArray, List.length_cons, List.length_nil, Nat.reduceAdd, Nat.reduceSub, Array.replicate_succ, Array.replicate_zero, List.push_toArray, List.append_toArray, List.nil_append, List.cons_append]
  gi_wp2_with (first
    | (show Fence.wide.fn 83 ∧ _ ∧ _; refine ⟨trivial, fun h => (by cases h), ?_⟩; refine (callsIn_wide.2 (block_any a n _ ha ha2 hn hn4)).mono ?_; rintro e w' ⟨rfl, rfl⟩; rw [hfst])
    | (show Fence.wide.fn 81 ∧ _ ∧ _; refine ⟨trivial, fun h => (by cases h), ?_⟩; refine (callsIn_wide.2 (inRow_any a n _)).mono ?_; rintro e w' ⟨rfl, rfl⟩))
  obtain ⟨W0, hW0⟩ : ∃ W0, ((((W.alloc (.cells #[.func (.yield l) #[] #[]] 112)).alloc (.cells #[.int .i64 fst] 92)).alloc (.cells #[.int .i64 a] 92)).alloc (.cells #[.int .i64 n] 3)) = W0 := ⟨_, rfl⟩
  have hs0 : W0.heap.size = W.heap.size + 4 := by rw [← hW0]; simp
  have hb0 : Below W.heap.size W W0 := by
    rw [← hW0]
    exact ((((Below.refl _ W).alloc (by simp) _).alloc (by simp) _).alloc (by simp; omega) _).alloc (by simp; omega) _
  have c1 : W0.cell? ⟨W.heap.size, 0, none⟩ = some (.func (.yield l) #[] #[]) := by
    rw [← hW0]; exact cell_al _ (cell_al _ (cell_al _ (by simp)))
  have c2 : W0.cell? ⟨W.heap.size + 1, 0, none⟩ = some (.int .i64 fst) := by
    rw [← hW0]; exact cell_al _ (cell_al _ (by rw [World.cell?_alloc_at _ _ _ _ (by simp)]; rfl))
  have c3 : W0.cell? ⟨W.heap.size + 1 + 1, 0, none⟩ = some (.int .i64 a) := by
    rw [← hW0]; exact cell_al _ (by rw [World.cell?_alloc_at _ _ _ _ (by simp)]; rfl)
  have c4 : W0.cell? ⟨W.heap.size + 1 + 1 + 1, 0, none⟩ = some (.int .i64 n) := by
    rw [← hW0]; rw [World.cell?_alloc_at _ _ _ _ (by simp)]; rfl
  have c5 : W0.cell? ⟨bm, 0, none⟩ = some (.int .i64 n) := (hb0.cell (p := ⟨bm, 0, none⟩) hbm.2).trans hcm
  rw [hW0]
  clear hca1 hcm1 hW0
  refine wpIn_range (gf := 84) (lb := #[.pointer (some ⟨W.heap.size + 1 + 1 + 1, 0, none⟩), .pointer (some ⟨W.heap.size + 1 + 1, 0, none⟩)]) rfl (enters_of Try.func84 (by kernel_rfl) rfl)
    (inRow1_it a n (W.heap.size + 1 + 1) (W.heap.size + 1 + 1 + 1) ha ha2 hn hn4)
    (fun W' hb => ⟨(hb.cell (p := ⟨_, 0, none⟩) (by show W.heap.size + 1 + 1 < _; omega)).trans c3, (hb.cell (p := ⟨_, 0, none⟩) (by show W.heap.size + 1 + 1 + 1 < _; omega)).trans c4⟩)
    D (fun k hk => by have := hD k hk; omega)
    (fun k hk => ⟨fun e => by have := hD k e; omega, by omega⟩) rfl
    (fun pre W' => J (pre.map (rnd a n)) W' ∧ W'.cell? ⟨W.heap.size, 0, none⟩ = some (.func (.yield l) #[] #[]) ∧ W'.cell? ⟨W.heap.size + 1, 0, none⟩ = some (.int .i64 fst) ∧ W'.cell? ⟨bm, 0, none⟩ = some (.int .i64 n) ∧ Kept D W W' ∧ W.heap.size + 4 ≤ W'.heap.size)
    (fun s A B hs hb => ⟨hJ _ _ _ hs.1 (hb.mono (by omega)), (hb.cell (p := ⟨_, 0, none⟩) (by show W.heap.size < _; omega)).trans hs.2.1, (hb.cell (p := ⟨_, 0, none⟩) (by show W.heap.size + 1 < _; omega)).trans hs.2.2.1, (hb.cell (p := ⟨_, 0, none⟩) (by show bm < _; omega)).trans hs.2.2.2.1, hs.2.2.2.2.1.below hb (by omega), Nat.le_trans hs.2.2.2.2.2 hb.size⟩)
    ⟨hJ _ _ _ h0 hb0, c1, c2, c5, (Kept.refl D W).below hb0 (Nat.le_refl _), by omega⟩
    (fun x => { tmps := #[Value.func (Fn.yield l) #[] #[], Value.pointer (some { block := ba, off := 0 }),
          Value.pointer (some { block := bm, off := 0 }), Value.pointer (some { block := W.heap.size, off := 0 }),
          Value.pointer (some { block := W.heap.size + 1, off := 0 }), Value.int IntKind.i64 x, Value.int IntKind.i64 a,
          Value.int IntKind.i64 n, Value.int IntKind.i64 fst, Value.int IntKind.i64 a, Value.int IntKind.i64 n,
          Value.func (Fn.func 84) #[]
            #[Value.pointer (some { block := W.heap.size + 1 + 1 + 1, off := 0 }),
              Value.pointer (some { block := W.heap.size + 1 + 1, off := 0 })],
          Value.int IntKind.i64 x, undef, undef, undef, undef, undef, undef, undef, undef, undef, undef], defers := [] }) ?assign ?body ?done
  case assign =>
    intro l' x W' m K hK
    gi_wp2
    exact hK
  case body =>
    rintro l' pre x W' m ⟨hj, d1, d2, d3, d4, d5⟩ hpre
    obtain ⟨x1, x2⟩ := rowL_mem hpre
    have q3 : (0 : Int) ≤ (x - fst) % (n : Int) := Int.emod_nonneg _ (by omega)
    have q4 : (x - fst) % (n : Int) < (n : Int) := Int.emod_lt_of_pos _ (by omega)
    have q5 : (0 : Int) ≤ x - fst := by omega
    have erx : rnd a n x = fst + (x - fst) % (n : Int) := by unfold rnd; rw [hfst]
    have hpre' : pre.map (rnd a n) ++ [fst + (x - fst) % (n : Int)] <+: (rowL a n).map (rnd a n) := by
      have := List.IsPrefix.map (rnd a n) hpre
      rw [List.map_append] at this
      simpa [erx] using this
    obtain ⟨fn, tmps, assign, body, hy, hR⟩ := hY (pre.map (rnd a n)) (fst + (x - fst) % (n : Int)) W'.drew (m - 1) (hJ _ _ _ hj ((Below.refl _ _).drew)) hpre'
    have f3 : (0 : Int) ≤ fst := by have := fst_nonneg a n ha; omega
    have hws := wrap_small (x - fst) q5 (by omega)
    have q6 : fst + (x - fst) % (n : Int) ≤ 70 := by omega
    have q7 : 0 ≤ fst + (x - fst) % (n : Int) := by omega
    have hwr := wrap_small _ q7 q6
    have d1' : W'.drew.cell? ⟨W.heap.size, 0, none⟩ = some (.func (.yield l) #[] #[]) := d1
    have d2' : W'.drew.cell? ⟨W.heap.size + 1, 0, none⟩ = some (.int .i64 fst) := d2
    have d3' : W'.drew.cell? ⟨bm, 0, none⟩ = some (.int .i64 n) := d3
    gi_wp2
    have cells : ∀ w, (w = W'.drew ∨ (J (pre.map (rnd a n) ++ [fst + (x - fst) % (n : Int)]) w ∧ Kept D W'.drew w)) → w.cell? ⟨W.heap.size, 0, none⟩ = some (.func (.yield l) #[] #[]) ∧ w.cell? ⟨W.heap.size + 1, 0, none⟩ = some (.int .i64 fst) ∧ w.cell? ⟨bm, 0, none⟩ = some (.int .i64 n) := by
      rintro w (rfl | ⟨_, hk3⟩)
      · exact ⟨d1', d2', d3'⟩
      · exact ⟨(hk3.cell (p := ⟨_, 0, none⟩) (by show W.heap.size < W'.heap.size; omega) (fun e => by have := hD _ e; simp at this)).trans d1, (hk3.cell (p := ⟨_, 0, none⟩) (by show W.heap.size + 1 < W'.heap.size; omega) (fun e => by have := hD _ e; simp at this; omega)).trans d2, (hk3.cell (p := ⟨bm, 0, none⟩) (by show bm < W'.heap.size; omega) hbm.1).trans d3⟩
    refine wpIn_region_det (by kernel_rfl) (rf l fst x n) 8 (fun w => J (pre.map (rnd a n) ++ [fst + (x - fst) % (n : Int)]) w ∧ Kept D W'.drew w) [13, 14, 15, 16, 17, 18, 19, 20, 21, 22] (by kernel_rfl) (by kernel_rfl) ?_ (by decide) ?_
    · intro i o ho
      rcases i with _ | _ | _ | _ | _ | _ | _ | _ | _ | _ | i
      · simp at ho; subst ho
        refine ⟨rfl, (by intro y h; cases h), 13, rfl, fun ρ hs => ⟨fun _ w hw => ?_, fun h => by omega⟩⟩
        obtain ⟨e1, e2, e3⟩ := cells w hw
        have h3 : ρ (.tmp 3) = .pointer (some ⟨W.heap.size, 0, none⟩) := hs.2.1 3 (by kernel_rfl)
        simp only [execOp, h3, rf]
        go_simp
      · simp at ho; subst ho
        refine ⟨rfl, (by intro y h; cases h), 14, rfl, fun ρ hs => ⟨fun _ w hw => ?_, fun h => by omega⟩⟩
        obtain ⟨e1, e2, e3⟩ := cells w hw
        have h3 : ρ (.tmp 4) = .pointer (some ⟨W.heap.size + 1, 0, none⟩) := hs.2.1 4 (by kernel_rfl)
        simp only [execOp, h3, rf]
        go_simp
      · simp at ho; subst ho
        refine ⟨rfl, (by intro y h; cases h), 15, rfl, fun ρ hs => ⟨fun _ w hw => ?_, fun h => by omega⟩⟩
        have h3 : ρ (.tmp 5) = .int .i64 x := hs.2.1 5 (by kernel_rfl)
        simp only [execOp, h3, rf]
        go_simp
      · simp at ho; subst ho
        refine ⟨rfl, (by intro y h; cases h), 16, rfl, fun ρ hs => ⟨fun _ w hw => ?_, fun h => by omega⟩⟩
        obtain ⟨e1, e2, e3⟩ := cells w hw
        have h3 : ρ (.tmp 4) = .pointer (some ⟨W.heap.size + 1, 0, none⟩) := hs.2.1 4 (by kernel_rfl)
        simp only [execOp, h3, rf]
        go_simp
      · simp at ho; subst ho
        refine ⟨rfl, (by intro y h; cases h), 17, rfl, fun ρ hs => ⟨fun _ w hw => ?_, fun h => by omega⟩⟩
        have h3 : ρ (.tmp 15) = .int .i64 x := hs.2.2 15 (by kernel_rfl)
        have h4 : ρ (.tmp 16) = .int .i64 fst := hs.2.2 16 (by kernel_rfl)
        simp only [execOp, h3, h4, rf]
        go_simp
        try exact hws
      · simp at ho; subst ho
        refine ⟨rfl, (by intro y h; cases h), 18, rfl, fun ρ hs => ⟨fun _ w hw => ?_, fun h => by omega⟩⟩
        obtain ⟨e1, e2, e3⟩ := cells w hw
        have h3 : ρ (.tmp 2) = .pointer (some ⟨bm, 0, none⟩) := hs.2.1 2 (by kernel_rfl)
        simp only [execOp, h3, rf]
        go_simp
      · simp at ho; subst ho
        refine ⟨rfl, (by intro y h; cases h), 19, rfl, fun ρ hs => ⟨fun _ w hw => ?_, fun h => by omega⟩⟩
        have h3 : ρ (.tmp 17) = .int .i64 (x - fst) := hs.2.2 17 (by kernel_rfl)
        have h4 : ρ (.tmp 18) = .int .i64 n := hs.2.2 18 (by kernel_rfl)
        simp only [execOp, h3, h4, rf]
        go_simp
        rw [if_neg (by omega), Int.tmod_eq_emod_of_nonneg q5]
      · simp at ho; subst ho
        refine ⟨rfl, (by intro y h; cases h), 20, rfl, fun ρ hs => ⟨fun _ w hw => ?_, fun h => by omega⟩⟩
        have h3 : ρ (.tmp 14) = .int .i64 fst := hs.2.2 14 (by kernel_rfl)
        have h4 : ρ (.tmp 19) = .int .i64 ((x - fst) % (n : Int)) := hs.2.2 19 (by kernel_rfl)
        simp only [execOp, h3, h4, rf]
        go_simp
      · simp at ho; subst ho
        refine ⟨rfl, (by intro y h; cases h), 21, rfl, fun ρ hs => ⟨fun h => by omega, fun _ => ⟨l, fn, tmps, assign, body, ?_, fun m' => ?_⟩⟩⟩
        · have h3 : ρ (.tmp 13) = .func (.yield l) #[] #[] := hs.2.2 13 (by kernel_rfl)
          have h4 : ρ (.tmp 20) = .int .i64 (fst + (x - fst) % (n : Int)) := hs.2.2 20 (by kernel_rfl)
          simp only [execOp, h3, h4]
          go_simp
        · exact round_any rfl (RoundIn.mono hR (fun e w' h => h))
      · simp at ho; subst ho
        refine ⟨rfl, (by intro y h; cases h), 22, rfl, fun ρ hs => ⟨fun _ w hw => ?_, fun h => by omega⟩⟩
        have h3 : ρ (.tmp 21) = .bool true := hs.2.2 21 (by kernel_rfl)
        simp only [execOp, h3, rf]
        go_simp
      · simp at ho
    · rintro W3 ⟨hJ3, hk3⟩
      obtain ⟨e1, e2, e3⟩ := cells W3 (.inr ⟨hJ3, hk3⟩)
      clear cells hy hR hY
      simp only [fill, rf, Act.put, List.setIfInBounds_toArray, List.set_cons_zero, List.set_cons_succ]
      gi_wp2
      exact ⟨(Kept.drew D W').trans hk3, by simpa [erx] using hJ3, e1, e2, e3, d4.trans ((Kept.drew D W').trans hk3), Nat.le_trans d5 hk3.size⟩
  case done =>
    rintro B W' hB ⟨hj, d1, d2, d3, d4, d5⟩ hK
    gi_wp2
    refine ⟨by simp, .inl ⟨_, _, rfl, run_takeDeferred hK, ?_⟩⟩
    exact ⟨_, results_none rfl _ _ _, ⟨_, rfl⟩, hJ _ _ _ hj (below_putObj _ (by omega) _), d4.below (below_putObj _ (show W.heap.size ≤ B by omega) _) (Nat.le_refl _)⟩

end Go.Proofs.Ytdjmjdljgdagcaa
