/-
  The law's own rows of ranges: copies, and whether two are the same.
-/
import Derived.Test.YtpbkpfdbdfnlbaaGreatProg
import Derived.Test.YtpbkpfdbdfnlbaaGreatMapCM
import Derived.Test.YtpbkpfdbdfnlbaaGreatOpsXM
namespace Go.Proofs.YtpbkpfdbdfnlbaaGreat
open Go.RowKit
set_option linter.unusedSimpArgs false
set_option linter.unusedVariables false

theorem sz_any (a : Option Addr) (len cap : Nat) (w : World) (h : len ≤ 9223372036854775807) :
    Calls Tryz.prog 5 #[.slice a len cap, .int .i64 1048576] w fun e w' => e = .returned (.int .i64 (if len ≤ 1048576 then 1048576 - len else -1)) ∧ w' = w := by
  by_cases hl : len ≤ 1048576
  · have hI : ¬ (1048576 - (len : Int) < 0) := by omega
    go_enter Tryz.func5, Tryz.ntmps5
    go_wp2
    go_ret
    exact ⟨by simp [hl], rfl⟩
  · have hI : (1048576 - (len : Int) < 0) := by omega
    go_enter Tryz.func5, Tryz.ntmps5
    go_wp2
    go_ret
    exact ⟨by simp [hl], rfl⟩

theorem toRange_any (r : Rng) (w : World) :
    Calls Tryz.prog 40 #[.agg #[.int .i64 r.fr, .int .i64 r.tt, .int .i64 r.sl, .bool r.only]] w fun e w' => e = .returned (.agg #[.int .i64 r.fr, .int .i64 r.tt, .int .i64 r.sl, .bool r.only]) ∧ Below w.heap.size w w' := by
  go_enter Tryz.func40, Tryz.ntmps40
  go_wp2
  refine bodyPost_ret (v := .agg #[.int .i64 r.fr, .int .i64 r.tt, .int .i64 r.sl, .bool r.only]) (by simp [results, Tryz.results40, go_sem]) rfl ⟨rfl, ?_⟩
  exact (((Below.refl _ w).alloc (Nat.le_refl _) _).alloc (by simp) _).alloc (by simp; omega) _

theorem eqRange_any (r : Rng) (w : World) :
    Calls Tryz.prog 50 #[.agg #[.int .i64 r.fr, .int .i64 r.tt, .int .i64 r.sl, .bool r.only], .agg #[.int .i64 r.fr, .int .i64 r.tt, .int .i64 r.sl, .bool r.only]] w fun e w' => e = .returned (.bool true) ∧ Below w.heap.size w w' := by
  have hbl : ∀ o o', Below w.heap.size w ((w.alloc o).alloc o') := fun o o' => ((Below.refl _ w).alloc (Nat.le_refl _) o).alloc (by simp) o'
  go_enter Tryz.func50, Tryz.ntmps50
  go_wp2
  go_ret
  exact ⟨rfl, hbl _ _⟩

/-! ### four cells, stored -/
def set4 (w : World) (b o : Nat) (r : Rng) : World :=
  (((w.setCell ⟨b, o, none⟩ (.int .i64 r.fr)).setCell ⟨b, o + 1, none⟩ (.int .i64 r.tt)).setCell ⟨b, o + 2, none⟩ (.int .i64 r.sl)).setCell ⟨b, o + 3, none⟩ (.bool r.only)

theorem cell_other {w : World} {b o o' : Nat} {v : Value} (h : o ≠ o') : (w.setCell ⟨b, o, none⟩ v).cell? ⟨b, o', none⟩ = w.cell? ⟨b, o', none⟩ :=
  World.cell?_setCell_other _ _ _ _ (by simp)
theorem cell_isSome {w : World} {b o o' : Nat} {v u : Value} (h : w.cell? ⟨b, o', none⟩ = some u) : ∃ u', (w.setCell ⟨b, o, none⟩ v).cell? ⟨b, o', none⟩ = some u' := by
  by_cases e : o = o'
  · subst e; exact ⟨v, World.cell?_setCell_same _ _ _ h⟩
  · exact ⟨u, (cell_other e).trans h⟩

theorem set4_there {w : World} {b o : Nat} {r : Rng} (o' : Nat) (h : ∃ u, w.cell? ⟨b, o', none⟩ = some u) : ∃ u, (set4 w b o r).cell? ⟨b, o', none⟩ = some u := by
  obtain ⟨u, h⟩ := h
  obtain ⟨u, h⟩ := cell_isSome (o := o) (v := .int .i64 r.fr) h
  obtain ⟨u, h⟩ := cell_isSome (o := o + 1) (v := .int .i64 r.tt) h
  obtain ⟨u, h⟩ := cell_isSome (o := o + 2) (v := .int .i64 r.sl) h
  exact cell_isSome h
theorem set4_other {w : World} {b o : Nat} {r : Rng} (o' : Nat) (h : o' < o ∨ o + 4 ≤ o') : (set4 w b o r).cell? ⟨b, o', none⟩ = w.cell? ⟨b, o', none⟩ := by
  unfold set4
  rw [cell_other (by omega), cell_other (by omega), cell_other (by omega), cell_other (by omega)]
theorem set4_at {w : World} {b o : Nat} {r : Rng} (h : ∀ i, i < 4 → ∃ u, w.cell? ⟨b, o + i, none⟩ = some u) :
    (set4 w b o r).cell? ⟨b, o, none⟩ = some (.int .i64 r.fr) ∧ (set4 w b o r).cell? ⟨b, o + 1, none⟩ = some (.int .i64 r.tt) ∧
    (set4 w b o r).cell? ⟨b, o + 2, none⟩ = some (.int .i64 r.sl) ∧ (set4 w b o r).cell? ⟨b, o + 3, none⟩ = some (.bool r.only) := by
  obtain ⟨u0, h0⟩ := h 0 (by omega)
  obtain ⟨u1, h1⟩ := h 1 (by omega)
  obtain ⟨u2, h2⟩ := h 2 (by omega)
  obtain ⟨u3, h3⟩ := h 3 (by omega)
  simp only [Nat.add_zero] at h0
  unfold set4
  refine ⟨?_, ?_, ?_, ?_⟩
  · rw [cell_other (by omega), cell_other (by omega), cell_other (by omega), World.cell?_setCell_same _ _ _ h0]
  · rw [cell_other (by omega), cell_other (by omega), World.cell?_setCell_same (u := u1) _ _ _ (by rw [cell_other (by omega)]; exact h1)]
  · rw [cell_other (by omega), World.cell?_setCell_same (u := u2) _ _ _ (by rw [cell_other (by omega), cell_other (by omega)]; exact h2)]
  · rw [World.cell?_setCell_same (u := u3) _ _ _ (by rw [cell_other (by omega), cell_other (by omega), cell_other (by omega)]; exact h3)]
theorem set4_below {w : World} {b o B : Nat} {r : Rng} {a : World} (h : Below B a w) (hb : B ≤ b) : Below B a (set4 w b o r) :=
  (((h.setCell (p := ⟨b, o, none⟩) hb _).setCell (p := ⟨b, o + 1, none⟩) hb _).setCell (p := ⟨b, o + 2, none⟩) hb _).setCell (p := ⟨b, o + 3, none⟩) hb _
theorem set4_frozen {w : World} {b o : Nat} {r : Rng} (x : Addr) : (set4 w b o r).frozen? x = w.frozen? x := by
  simp [set4]
theorem set4_size {w : World} {b o : Nat} {r : Rng} : (set4 w b o r).heap.size = w.heap.size := by
  simp [set4]

/-- block N, n cells, may be written; the first k ranges lie there -/
structure Part (w : World) (N n : Nat) (xs : List Rng) (k : Nat) : Prop where
  there : ∀ o, o < n * 4 → ∃ u, w.cell? ⟨N, o, none⟩ = some u
  free : ∀ o, w.frozen? ⟨N, o, none⟩ = false
  done : ∀ j (h : j < xs.length), j < k → w.cell? ⟨N, j * 4, none⟩ = some (.int .i64 xs[j].fr) ∧ w.cell? ⟨N, j * 4 + 1, none⟩ = some (.int .i64 xs[j].tt) ∧
    w.cell? ⟨N, j * 4 + 2, none⟩ = some (.int .i64 xs[j].sl) ∧ w.cell? ⟨N, j * 4 + 3, none⟩ = some (.bool xs[j].only)

theorem Part.new {w : World} {xs : List Rng} {cs : Array Value} {t : TypeId} {n : Nat} (h : cs.size = n * 4) : Part (w.alloc (.cells cs t)) w.heap.size n xs 0 :=
  ⟨fun o ho => ⟨cs[o]'(by omega), by rw [World.cell?_alloc_new]; simp [h, ho]⟩, fun o => by simp, fun j _ h => by omega⟩
theorem Part.below {w w' : World} {N n k : Nat} {xs : List Rng} (h : Part w N n xs k) (hN : N < w.heap.size) (hb : Below w.heap.size w w') : Part w' N n xs k :=
  ⟨fun o ho => by rw [hb.cell (p := ⟨N, o, none⟩) hN]; exact h.there o ho, fun o => by rw [hb.frozen (p := ⟨N, o, none⟩) hN]; exact h.free o,
   fun j hj hk => by
    rw [hb.cell (p := ⟨N, j * 4, none⟩) hN, hb.cell (p := ⟨N, j * 4 + 1, none⟩) hN, hb.cell (p := ⟨N, j * 4 + 2, none⟩) hN, hb.cell (p := ⟨N, j * 4 + 3, none⟩) hN]
    exact h.done j hj hk⟩
theorem Part.step {w : World} {N n k : Nat} {xs : List Rng} (h : Part w N n xs k) (hk : k < xs.length) (hn : k < n) : Part (set4 w N (k * 4) xs[k]) N n xs (k + 1) :=
  ⟨fun o ho => set4_there o (h.there o ho), fun o => by rw [set4_frozen]; exact h.free o,
   fun j hj hjk => by
    by_cases e : j = k
    · subst e
      exact set4_at (fun i hi => h.there _ (by omega))
    · have := h.done j hj (by omega)
      rw [set4_other _ (by omega), set4_other _ (by omega), set4_other _ (by omega), set4_other _ (by omega)]
      exact this⟩
theorem Part.row {w : World} {N n : Nat} {xs : List Rng} (h : Part w N n xs xs.length) (hN : N < w.heap.size) : RowOf w (some ⟨N, 0, none⟩) xs :=
  .inr ⟨N, 0, rfl, hN, fun k hk => by simpa using h.done k hk hk⟩

theorem Tryz.infoRng : (Tryz.prog.info? 74).map (fun i => (i.zero, i.size, i.bytes)) = some (some (.agg #[.int .i64 0, .int .i64 0, .int .i64 0, .bool false]), 4, 32) := by kernel_rfl

set_option maxHeartbeats 1000000 in
theorem toRows_any (a : Option Addr) (cap : Nat) (xs : List Rng) (w : World) (hx : RowOf w a xs) (hc : xs.length ≤ cap) (hm : cap ≤ 9223372036854775807) (hl : xs.length ≤ 1048576) :
    Calls Tryz.prog 9 #[.slice a xs.length cap] w fun e w' => e = .returned (.slice (some ⟨w.heap.size, 0, none⟩) xs.length xs.length) ∧ RowOf w' (some ⟨w.heap.size, 0, none⟩) xs ∧ Below w.heap.size w w' ∧ w.heap.size < w'.heap.size := by
  obtain ⟨i0, hi, hz0, hz1, hz2⟩ := info_parts Tryz.infoRng
  have hmk : ∀ W : World, (Instr.makeSlice 40 (.int .i64 (xs.length : Int)) (.int .i64 (xs.length : Int))).run Tryz.prog W =
      .ok (.slice (some ⟨W.heap.size, 0, none⟩) xs.length xs.length) (W.alloc (.cells (madeCells (Value.agg #[.int .i64 0, .int .i64 0, .int .i64 0, .bool false]).cells (xs.length * 4)) 74)) := fun W => by
    have := run_make (P := Tryz.prog) W 40 74 i0 _ Tryz.underlying40 hi hz0 .i64 .i64 (xs.length : Int) (xs.length : Int) (by omega) (by omega) (by rw [hz2]; omega) (by omega)
    rw [hz1] at this
    simpa using this
  go_enter Tryz.func9, Tryz.ntmps9
  go_wp2
  have hp := Part.new (w := w) (xs := xs) (t := 74) (size_madeCells (Value.agg #[.int .i64 0, .int .i64 0, .int .i64 0, .bool false]).cells (xs.length * 4))
  have hbl0 : Below w.heap.size w (w.alloc (.cells (madeCells (Value.agg #[.int .i64 0, .int .i64 0, .int .i64 0, .bool false]).cells (xs.length * 4)) 74)) := (Below.refl _ w).alloc (Nat.le_refl _) _
  have hsz0 : w.heap.size < (w.alloc (.cells (madeCells (Value.agg #[.int .i64 0, .int .i64 0, .int .i64 0, .bool false]).cells (xs.length * 4)) 74)).heap.size := by simp
  clear hmk
  go_loopw [4] (fun i wr => ∃ k : Nat, k ≤ xs.length ∧ i = .int .i64 k ∧ Below w.heap.size w wr ∧ w.heap.size < wr.heap.size ∧ Part wr w.heap.size xs.length xs k) (fun i _ => xs.length - (intOf i).toNat)
  case atStart => exact ⟨0, Nat.zero_le _, rfl, hbl0, hsz0, hp⟩
  case round =>
    clear hp hbl0 hsz0
    obtain ⟨k, hk, rfl, hbl, hsz, hP⟩ := hrel
    by_cases hlt : k < xs.length
    · rcases hx with hx | ⟨b, off, rfl, hb, hcells⟩
      · subst hx; simp at hlt
      · obtain ⟨g0, g1, g2, g3⟩ := hcells k hlt
        have c0 := (hbl.cell (p := ⟨b, off + k * 4, none⟩) hb).trans g0
        have c1 := (hbl.cell (p := ⟨b, off + k * 4 + 1, none⟩) hb).trans g1
        have c2 := (hbl.cell (p := ⟨b, off + k * 4 + 2, none⟩) hb).trans g2
        have c3 := (hbl.cell (p := ⟨b, off + k * 4 + 3, none⟩) hb).trans g3
        clear g0 g1 g2 g3 hcells
        have hk0 : (0 : Int) ≤ (k : Int) := by omega
        have hk1 : (k : Int) < (xs.length : Int) := by omega
        go_wp2_with fail
        refine (toRange_any xs[k] _).mono ?_
        rintro e w1 ⟨rfl, hb1⟩
        have hP1 := hP.below hsz hb1
        have hbl1 : Below w.heap.size w w1 := hbl.trans (hb1.mono (by omega))
        have hsz1 : w.heap.size < w1.heap.size := Nat.lt_of_lt_of_le hsz hb1.size
        obtain ⟨u0, t0⟩ := hP1.there (k * 4) (by omega)
        obtain ⟨u1, t1⟩ := hP1.there (k * 4 + 1) (by omega)
        obtain ⟨u2, t2⟩ := hP1.there (k * 4 + 2) (by omega)
        obtain ⟨u3, t3⟩ := hP1.there (k * 4 + 3) (by omega)
        have f0 := hP1.free (k * 4)
        have f1 := hP1.free (k * 4 + 1)
        have f2 := hP1.free (k * 4 + 2)
        have f3 := hP1.free (k * 4 + 3)
        have hP2 := hP1.step hlt hlt
        have hbl2 := set4_below (o := k * 4) (r := xs[k]) hbl1 (Nat.le_refl _)
        clear hb1 c0 c1 c2 c3
        go_wp2
        go_roundw
        case rel => exact ⟨k + 1, by omega, by go_num, hbl2, by simpa using hsz1, hP2⟩
        case measure => simp [intOf]; omega
    · have hk' : k = xs.length := by omega
      subst hk'
      have hR := hP.row hsz
      go_wp2
      go_ret
      exact ⟨rfl, hR, hbl, hsz⟩


set_option maxHeartbeats 1000000 in
theorem eqRows_any (a a' : Option Addr) (cap cap' : Nat) (xs : List Rng) (w : World) (hx : RowOf w a xs) (hx' : RowOf w a' xs) (hc : xs.length ≤ cap) (hm : cap ≤ 9223372036854775807) (hc' : xs.length ≤ cap') (hm' : cap' ≤ 9223372036854775807) :
    Calls Tryz.prog 15 #[.slice a xs.length cap, .slice a' xs.length cap'] w fun e w' => e = .returned (.bool true) ∧ Below w.heap.size w w' := by
  go_enter Tryz.func15, Tryz.ntmps15
  go_wp2
  go_loopw [5] (fun i wr => ∃ k : Nat, k ≤ xs.length ∧ i = .int .i64 k ∧ Below w.heap.size w wr) (fun i _ => xs.length - (intOf i).toNat)
  case atStart => exact ⟨0, Nat.zero_le _, rfl, Below.refl _ _⟩
  case round =>
    obtain ⟨k, hk, rfl, hbl⟩ := hrel
    by_cases hlt : k < xs.length
    · rcases hx with hx | ⟨b, off, rfl, hb, hcells⟩
      · subst hx; simp at hlt
      rcases hx' with hx' | ⟨b', off', rfl, hb', hcells'⟩
      · subst hx'; simp at hlt
      have hk0 : (0 : Int) ≤ (k : Int) := by omega
      have hk1 : (k : Int) < (xs.length : Int) := by omega
      have HC := Hid.intro (hcells k hlt)
      have HC' := Hid.intro (hcells' k hlt)
      clear hcells hcells'
      go_wp2_with fail
      refine wp_region_typed (by kernel_rfl) (Up w.heap.size) (fun _ W => Below w.heap.size w W)
        (tab [(17, kIs (.slice (some ⟨b, off, none⟩) xs.length cap)), (18, kIs (.int .i64 (k : Int))), (19, kIs (.pointer (some ⟨b, off + k * 4, none⟩))), (20, kIs xs[k].val),
          (21, kIs (.slice (some ⟨b', off', none⟩) xs.length cap')), (22, kIs (.int .i64 (k : Int))), (23, kIs (.pointer (some ⟨b', off' + k * 4, none⟩))), (24, kIs xs[k].val), (25, kIs (.bool true)), (26, kIs (.bool false))])
        [17, 18, 19, 20, 21, 22, 23, 24, 25, 26] (by kernel_rfl) (by kernel_rfl) (tab_stable (by simp [stable_is])) ?_ ?_ ?_
      · exact hbl.drew
      · refine ops_cons (gd rfl <| ty_move_out (.inl rfl) rfl (by kernel_rfl) rfl (fun _ _ h => h) (Up.refl _)) ?_
        refine ops_cons (gd rfl <| ty_move_out (.inl rfl) rfl (by kernel_rfl) rfl (fun _ _ h => h) (Up.refl _)) ?_
        refine ops_cons (gd rfl <| ty_pure rfl rfl (fun _ _ h => h) (Up.refl _) (fun i ρ W hcn hd hW => ?_)) ?_
        · have e1 : ρ (.tmp 17) = _ := dep_of (d := 17) (by kernel_rfl) hd
          have e2 : ρ (.tmp 18) = _ := dep_of (d := 18) (by kernel_rfl) hd
          simp only [execOp, e1, e2]; go_simp
        refine ops_cons (gd rfl <| ty_pure rfl rfl (fun _ _ h => h) (Up.refl _) (fun i ρ W hcn hd hW => ?_)) ?_
        · have e1 : ρ (.tmp 19) = _ := dep_of (d := 19) (by kernel_rfl) hd
          obtain ⟨g0, g1, g2, g3⟩ := HC.out
          have c0 := (hW.cell (p := ⟨b, off + k * 4, none⟩) hb).trans g0
          have c1 := (hW.cell (p := ⟨b, off + k * 4 + 1, none⟩) hb).trans g1
          have c2 := (hW.cell (p := ⟨b, off + k * 4 + 2, none⟩) hb).trans g2
          have c3 := (hW.cell (p := ⟨b, off + k * 4 + 3, none⟩) hb).trans g3
          clear g0 g1 g2 g3
          simp only [execOp, e1, Rng.val]; go_simp
        refine ops_cons (gd rfl <| ty_move_out (.inl rfl) rfl (by kernel_rfl) rfl (fun _ _ h => h) (Up.refl _)) ?_
        refine ops_cons (gd rfl <| ty_move_out (.inl rfl) rfl (by kernel_rfl) rfl (fun _ _ h => h) (Up.refl _)) ?_
        refine ops_cons (gd rfl <| ty_pure rfl rfl (fun _ _ h => h) (Up.refl _) (fun i ρ W hcn hd hW => ?_)) ?_
        · have e1 : ρ (.tmp 21) = _ := dep_of (d := 21) (by kernel_rfl) hd
          have e2 : ρ (.tmp 22) = _ := dep_of (d := 22) (by kernel_rfl) hd
          simp only [execOp, e1, e2]; go_simp
        refine ops_cons (gd rfl <| ty_pure rfl rfl (fun _ _ h => h) (Up.refl _) (fun i ρ W hcn hd hW => ?_)) ?_
        · have e1 : ρ (.tmp 23) = _ := dep_of (d := 23) (by kernel_rfl) hd
          obtain ⟨g0, g1, g2, g3⟩ := HC'.out
          have c0 := (hW.cell (p := ⟨b', off' + k * 4, none⟩) hb').trans g0
          have c1 := (hW.cell (p := ⟨b', off' + k * 4 + 1, none⟩) hb').trans g1
          have c2 := (hW.cell (p := ⟨b', off' + k * 4 + 2, none⟩) hb').trans g2
          have c3 := (hW.cell (p := ⟨b', off' + k * 4 + 3, none⟩) hb').trans g3
          clear g0 g1 g2 g3
          simp only [execOp, e1, Rng.val]; go_simp
        refine ops_cons (gd rfl <| ty_enter rfl (fun i ρ W _ hcn hf hd hW => ?_)) ?_
        · have e1 : ρ (.tmp 20) = _ := dep_of (d := 20) (by kernel_rfl) hd
          have e2 : ρ (.tmp 24) = _ := dep_of (d := 24) (by kernel_rfl) hd
          refine ⟨50, #[xs[k].val, xs[k].val], by simp only [execOp]; go_simp, ?_⟩
          refine (eqRange_any xs[k] W).mono ?_
          rintro e W' ⟨rfl, hb1⟩
          exact ⟨_, rfl, hW.trans (hb1.mono hW.size), Up.of_below hb1, rfl⟩
        refine ops_cons (gd rfl <| ty_pure rfl rfl (fun _ _ h => h) (Up.refl _) (fun i ρ W hcn hd hW => ?_)) ?_
        · have e1 : ρ (.tmp 25) = _ := dep_of (d := 25) (by kernel_rfl) hd
          simp only [execOp, e1]; go_simp
        exact ops_nil
      · intro f W hW hf
        have e26 : f 26 = .bool false := hf 26 (by simp)
        clear hf HC HC'
        simp only [fill, e26]
        go_simp
        go_wp2
        go_roundw
        case rel => exact ⟨k + 1, by omega, by go_num, hW⟩
        case measure => simp [intOf]; omega
    · go_wp2
      go_ret
      exact ⟨rfl, hbl⟩

end Go.Proofs.YtpbkpfdbdfnlbaaGreat
