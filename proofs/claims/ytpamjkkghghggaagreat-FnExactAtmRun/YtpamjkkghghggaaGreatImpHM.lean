/-
  The program's visitor that does what it sees: write, try.
-/
import Derived.Test.YtpamjkkghghggaaGreatImpDM
import Derived.Test.YtpamjkkghghggaaGreatBurstM
import Derived.Test.YtpamjkkghghggaaGreatPairWM
/-
  wordsOf of the program's desk: the words of a burst, in new memory.
-/
namespace Go.Proofs.YtpamjkkghghggaaGreat
open Go.RowKit Go.Shelf
set_option linter.unusedSimpArgs false
set_option linter.unusedVariables false
attribute [local go_sem] Oper.semAt_some

/-- a round that appends y to the row g, held by the box A -/
structure CW (g A n len : Nat) (l : List Value) (y : Value) (W0 : World) (d : Nat → Bool) (W : World) : Prop where
  kept : Kept (fun k => k = g ∨ k = A) W0 W
  row : ORow 3 1 W g n (if d 8 then len + 1 else len) (if d 8 then l ++ [y] else l)
  box : W.heap[A]? = some (.cells #[.slice (some ⟨g, 0, none⟩) (if d 9 then len + 1 else len) n] 23 (0, 0))
theorem CW.step {g A n len : Nat} {l : List Value} {y : Value} {W0 W : World} {d : Nat → Bool} {i : Nat} (h8 : 8 ≠ i) (h9 : 9 ≠ i) (h : CW g A n len l y W0 d W) : CW g A n len l y W0 (updB d i) W :=
  ⟨h.kept, by rw [updB_ne d h8]; exact h.row, by rw [updB_ne d h9]; exact h.box⟩
theorem CW.grow {g A n len : Nat} {l : List Value} {y : Value} {W0 W W' : World} {d : Nat → Bool} {i : Nat} (h8 : 8 ≠ i) (h9 : 9 ≠ i) (h : CW g A n len l y W0 d W) (hg : Gr W W') : CW g A n len l y W0 (updB d i) W' :=
  ⟨h.kept.trans (Kept.of_below hg), by rw [updB_ne d h8]; exact h.row.gr hg, by rw [updB_ne d h9]; exact hg.cells h.box⟩
theorem CW.cA {g A n len : Nat} {l : List Value} {y : Value} {W0 W : World} {d : Nat → Bool} (h : CW g A n len l y W0 d W) (hd : d 9 = false) : W.cell? ⟨A, 0, none⟩ = some (.slice (some ⟨g, 0, none⟩) len n) := by
  have := h.box; rw [hd] at this; exact heap_cell this 0
theorem CW.fA {g A n len : Nat} {l : List Value} {y : Value} {W0 W : World} {d : Nat → Bool} (h : CW g A n len l y W0 d W) : W.frozen? ⟨A, 0, none⟩ = false := heap_free h.box 0
theorem CW.old {g A n len : Nat} {l : List Value} {y : Value} {W0 W : World} {d : Nat → Bool} (h : CW g A n len l y W0 d W) (hd : d 8 = false) : ORow 3 1 W g n len l := by
  have := h.row; rw [hd] at this; exact this
theorem CW.kepts {g A n len : Nat} {l : List Value} {y : Value} {W0 W W' : World} {d : Nat → Bool} (h : CW g A n len l y W0 d W) (hr : Grew W W' g) : Kept (fun k => k = g ∨ k = A) W W' :=
  ⟨hr.os, hr.tape, hr.output, hr.size, fun k hk hne => hr.block k hk (fun e => hne (.inl e))⟩
theorem CW.app {g A n len : Nat} {l : List Value} {y : Value} {W0 W W' : World} {d : Nat → Bool} (h : CW g A n len l y W0 d W) (hgA : g ≠ A) (hrow : ORow 3 1 W' g n (len + 1) (l ++ [y])) (hr : Grew W W' g) : CW g A n len l y W0 (updB d 8) W' :=
  ⟨h.kept.trans (h.kepts hr), by rw [updB_self]; exact hrow, by rw [updB_ne d (by decide : (9 : Nat) ≠ 8)]; exact (hr.block A (heap_lt h.box) (Ne.symm hgA)).trans h.box⟩
theorem CW.store {g A n len : Nat} {l : List Value} {y : Value} {W0 W : World} {d : Nat → Bool} (h : CW g A n len l y W0 d W) (hgA : g ≠ A) : CW g A n len l y W0 (updB d 9) (W.setCell ⟨A, 0, none⟩ (.slice (some ⟨g, 0, none⟩) (len + 1) n)) :=
  ⟨h.kept.trans (Kept.setCell (D := fun k => k = g ∨ k = A) (p := ⟨A, 0, none⟩) _ (.inr rfl) _), by rw [updB_ne d (by decide : (8 : Nat) ≠ 9)]; exact h.row.of (heap_set_ne hgA), by rw [updB_self]; exact (heap_set h.box 0 _).trans rfl⟩

def k7_wordsL (D A Bd g n len x : Nat) (y : Int) (M : Nat) : World → Value → Prop := fun w v => ∃ b, v = .slice (some ⟨b, 0, none⟩) 1 1 ∧ M ≤ b ∧ w.heap[b]? = some (.cells #[.int .i64 y] 3 (0, 0))

def fl_wordsL (D A Bd g n len x : Nat) (y : Int) (M : Nat) : List Fact := [
  fIs 18 (.slice (some ⟨g, 0, none⟩) len n),
  fIs 19 (.pointer (some ⟨D, 0, none⟩)),
  fIs 20 (.int .i64 (x : Int)),
  fIs 21 (.pointer (some ⟨D, 0, none⟩)),
  fIs 22 (.pointer (some ⟨D, 0, none⟩)),
  fIs 23 (.pointer (some ⟨D, x, none⟩)),
  fIs 24 (.int .i64 y),
  fK 25 (k7_wordsL D A Bd g n len x y M),
  fIs 26 (.slice (some ⟨g, 0, none⟩) (len + 1) n),
  ⟨[], [], fun _ _ _ => True⟩]

theorem st_wordsL (D A Bd g n len x : Nat) (y : Int) (M : Nat) : ∀ F ∈ fl_wordsL D A Bd g n len x y M, F.Stab :=
  stab_cons (fIs_stab _ _) <|
  stab_cons (fIs_stab _ _) <|
  stab_cons (fIs_stab _ _) <|
  stab_cons (fIs_stab _ _) <|
  stab_cons (fIs_stab _ _) <|
  stab_cons (fIs_stab _ _) <|
  stab_cons (fIs_stab _ _) <|
  stab_cons (fK_stab (by rintro w w' v hg ⟨b, h1, h2, h3⟩; exact ⟨b, h1, h2, hg.cells h3⟩)) <|
  stab_cons (fIs_stab _ _) <|
  stab_cons (fun _ _ _ _ _ h => h) stab_nil

theorem kept_wordsL (D A Bd g n len x : Nat) (y : Int) (M : Nat) (hg : g < M) (hA : A < M) : ∀ j, ([] : List Nat).contains j = false → ∀ s d w w', Kept (fun k => k = g ∨ k = A) w w' → (factsOf (fl_wordsL D A Bd g n len x y M) j).body s d w → (factsOf (fl_wordsL D A Bd g n len x y M) j).body s d w' := by
  intro j _ s d w w' hk hb
  rcases j with _ | _ | _ | _ | _ | _ | _ | _ | _ | _ | j
  case succ.succ.succ.succ.succ.succ.succ.zero =>
    obtain ⟨b, h1, h2, h3⟩ := hb
    exact ⟨b, h1, h2, (hk.block b (heap_lt h3) (by omega)).trans h3⟩
  all_goals exact hb

theorem up_app {P : Program} {F : World → Value → Prop} {ρ : Operand → Value} {o : Oper} {w : World} {s x g cap n b c : Nat} {xs : List Value} {u : Value} (T E : TypeId) (i : TypeInfo)
    (ht : P.underlying T = some (.slice E)) (hi : P.info? E = some i) (hsz : i.size = 1)
    (ho : o.op = .call { callee := .builtin .append, args := #[.tmp s, .tmp x], argTypes := #[T, T] })
    (hs : ρ (.tmp s) = .slice (some ⟨g, 0, none⟩) n cap) (hW : ORow E 1 w g cap n xs) (hx : ρ (.tmp x) = .slice (some ⟨b, 0, none⟩) 1 c)
    (hu : w.cell? ⟨b, 0, none⟩ = some u) (h1 : u.oneCell' = true) (hr : n + 1 ≤ cap)
    (hF : ∀ w', ORow E 1 w' g cap (n + 1) (xs ++ [u]) → Grew w w' g → F w' (.slice (some ⟨g, 0, none⟩) (n + 1) cap)) : tyUpon P F ((execOp ρ o).run P w) := by
  obtain ⟨w', h, r1, r2⟩ := run_append_in T E i ht hi hsz ho hs hW hx hu h1 hr
  rw [h]; exact hF w' r1 r2

theorem make_cap (n : Nat) (hn : n ≤ 1048576) (W : World) : (Instr.makeSlice 23 (.int .i64 0) (.int .i64 (n : Int))).run Tryz.prog W =
      .ok (.slice (some ⟨W.heap.size, 0, none⟩) 0 n) (W.alloc (.cells ((noughts n).map (Value.int .i64)).toArray 3)) := by
  obtain ⟨i0, hi, hz0, hz1, hz2⟩ := info_parts Tryz.infoInt
  have := run_make (P := Tryz.prog) W 23 3 i0 _ Tryz.underlying23 hi hz0 .i64 .i64 0 (n : Int) (by omega) (by omega) (by rw [hz2]; omega) (by omega)
  rw [hz1] at this
  rw [← made_ints]
  simpa using this
theorem cap_row {w : World} {n : Nat} : ORow 3 1 (w.alloc (.cells ((noughts n).map (Value.int .i64)).toArray 3)) w.heap.size n 0 [] :=
  ⟨_, nw_at _ rfl, by simp [noughts], Nat.zero_le _, rfl, by simp⟩

set_option maxRecDepth 100000 in
set_option maxHeartbeats 1000000 in
theorem wordsOf_any (D H : Nat) (s : Stt) (r : Req) (pd pl : Option Addr) (cd cl : Nat) (w : World) (h : Desk w D H s) (hok : adrOkB r.addr r.many r.wrap = true) :
    Calls Tryz.prog 112 #[.pointer (some ⟨D, 0, none⟩), reqV r pd cd pl cl] w fun e w' => ∃ g c, e = .returned (.slice (some ⟨g, 0, none⟩) (getAll s.words (burst r.addr r.many r.wrap)).length c) ∧ ORow 3 1 w' g c (getAll s.words (burst r.addr r.many r.wrap)).length ((getAll s.words (burst r.addr r.many r.wrap)).map (Value.int .i64)) ∧ (getAll s.words (burst r.addr r.many r.wrap)).length ≤ c ∧ c ≤ 9223372036854775807 ∧ w.heap.size ≤ g ∧ Below w.heap.size w w' := by
  obtain ⟨id, kind, addr, many, wrap, data, lanes⟩ := r
  simp only at hok
  obtain ⟨h1, h2, h3, h4⟩ := (adrOk_iff addr many wrap).1 hok
  obtain ⟨n, rfl⟩ := Int.eq_ofNat_of_zero_le (show 0 ≤ many by omega)
  have hn1 : 1 ≤ n := by omega
  have hn4 : n ≤ 4 := by omega
  have HIB := Hid.intro (itL_burst hok)
  have HIN := Hid.intro (fun x hx => burst_in (x := addr) (m := (n : Int)) (wrap := wrap) x hx)
  clear h3 h4 hok
  obtain ⟨i0, hi, hz0, hz1, hz2⟩ := info_parts Tryz.infoInt
  have hDl := h.ltD
  have HD := Hid.intro h
  clear h
  unfold reqV
  simp only
  refine (callsIn_wide (n := 9)).1 ?_
  refine callsIn_of_wp_marks Tryz.func112 rfl trivial ?_ rfl
  simp only [Tryz.ntmps112, List.size_toArray, List.length_cons, List.length_nil, Nat.reduceAdd, Nat.reduceSub, Array.replicate_succ, Array.replicate_zero, List.push_toArray, List.append_toArray, List.nil_append, List.cons_append]
  have hmk := make_cap n (by omega)
  gi_wp2_with (show Fence.wide.fn 84 ∧ _; refine ⟨trivial, ?_⟩; refine (callsIn_wide.2 (burst_any addr n wrap _)).mono ?_; rintro e w' ⟨rfl, hw⟩; subst hw)
  obtain ⟨V0, hV0⟩ : ∃ V0, ((((((w.alloc (Obj.cells #[.pointer (some ⟨D, 0, none⟩)] 75)).alloc (Obj.cells #[.int .i64 id, .int .i64 kind, .int .i64 addr, .int .i64 (n : Int), .bool wrap, .slice pd data.length cd, .slice pl lanes.length cl] 66)).alloc (Obj.cells ((noughts n).map (Value.int .i64)).toArray 3)).alloc (Obj.cells #[.slice (some ⟨w.heap.size + 1 + 1, 0, none⟩) 0 n] 23)).alloc (Obj.cells #[.int .i64 addr] 94)).alloc (Obj.cells #[.int .i64 (n : Int)] 3)) = V0 := ⟨_, rfl⟩
  have hs0 : V0.heap.size = w.heap.size + 6 := by rw [← hV0]; simp
  have hb0 : Below w.heap.size w V0 := by
    rw [← hV0]; exact ((((((Below.refl _ w).alloc (Nat.le_refl _) _).alloc (by simp) _).alloc (by simp; omega) _).alloc (by simp; omega) _).alloc (by simp; omega) _).alloc (by simp; omega) _
  have hBd0 : V0.heap[w.heap.size]? = some (.cells #[.pointer (some ⟨D, 0, none⟩)] 75 (0, 0)) := by
    rw [← hV0]; exact (Below.heap_alloc _ _ _ (by simp; omega)).trans ((Below.heap_alloc _ _ _ (by simp; omega)).trans ((Below.heap_alloc _ _ _ (by simp; omega)).trans ((Below.heap_alloc _ _ _ (by simp; omega)).trans ((Below.heap_alloc _ _ _ (by simp)).trans (nw_at _ rfl)))))
  have hg0 : ORow 3 1 V0 (w.heap.size + 1 + 1) n 0 [] := by
    have := cap_row (w := (w.alloc (Obj.cells #[.pointer (some ⟨D, 0, none⟩)] 75)).alloc (Obj.cells #[.int .i64 id, .int .i64 kind, .int .i64 addr, .int .i64 (n : Int), .bool wrap, .slice pd data.length cd, .slice pl lanes.length cl] 66)) (n := n)
    simp only [World.size_alloc] at this
    rw [← hV0]; exact this.of ((Below.heap_alloc _ _ _ (by simp)).trans ((Below.heap_alloc _ _ _ (by simp)).trans (Below.heap_alloc _ _ _ (by simp))))
  have hA0 : V0.heap[w.heap.size + 1 + 1 + 1]? = some (.cells #[.slice (some ⟨w.heap.size + 1 + 1, 0, none⟩) 0 n] 23 (0, 0)) := by
    rw [← hV0]; exact (Below.heap_alloc _ _ _ (by simp)).trans ((Below.heap_alloc _ _ _ (by simp)).trans (nw_at _ (by simp)))
  have c2 : V0.cell? ⟨w.heap.size + 1 + 1 + 1 + 1, 0, none⟩ = some (.int .i64 addr) := heap_cell (show V0.heap[w.heap.size + 1 + 1 + 1 + 1]? = some (.cells #[.int .i64 addr] 94 (0, 0)) by rw [← hV0]; exact (Below.heap_alloc _ _ _ (by simp)).trans (nw_at _ (by simp))) 0
  have c3 : V0.cell? ⟨w.heap.size + 1 + 1 + 1 + 1 + 1, 0, none⟩ = some (.int .i64 n) := heap_cell (show V0.heap[w.heap.size + 1 + 1 + 1 + 1 + 1]? = some (.cells #[.int .i64 (n : Int)] 3 (0, 0)) by rw [← hV0]; exact nw_at _ (by simp)) 0
  rw [hV0]
  clear hV0 hmk
  obtain ⟨gf, lb, hgf, heg, hit⟩ := burst_it addr n (w.heap.size + 1 + 1 + 1 + 1) wrap h1 h2 hn1 hn4
  refine wpIn_range (gf := gf) (lb := lb) hgf heg hit
    (fun W' hb => ⟨(hb.cell (p := ⟨_, 0, none⟩) (by show w.heap.size + 1 + 1 + 1 + 1 < _; omega)).trans c2, (hb.cell (p := ⟨_, 0, none⟩) (by show w.heap.size + 1 + 1 + 1 + 1 + 1 < _; omega)).trans c3⟩)
    (fun k => k = w.heap.size + 1 + 1 ∨ k = w.heap.size + 1 + 1 + 1) (fun k hk => by omega)
    (fun k hk => ⟨fun e => by omega, by omega⟩) rfl
    (fun pre W' => ORow 3 1 W' (w.heap.size + 1 + 1) n pre.length ((pre.map (getZ s.words)).map (Value.int .i64)) ∧ W'.heap[w.heap.size + 1 + 1 + 1]? = some (.cells #[.slice (some ⟨w.heap.size + 1 + 1, 0, none⟩) pre.length n] 23 (0, 0)) ∧ W'.heap[w.heap.size]? = some (.cells #[.pointer (some ⟨D, 0, none⟩)] 75 (0, 0)) ∧ Below w.heap.size w W')
    (fun s A B hs hb => ⟨hs.1.below hb (by omega), (hb.block _ (by omega)).trans hs.2.1, (hb.block _ (by omega)).trans hs.2.2.1, hs.2.2.2.trans (hb.mono (by omega))⟩)
    ⟨hg0, hA0, hBd0, hb0⟩
    ?a1 ?assign ?body ?fin
  case assign =>
    intro l' x W' m K hK
    gi_wp2
    exact hK
  case body =>
    rintro l' pre xi W0 m ⟨hrow, hbox, hbd, hbl⟩ hpre
    have hlen : pre.length + 1 ≤ n := by
      have := hpre.length_le
      rw [itL_len] at this
      simpa using this
    have hxin : 0 ≤ xi ∧ xi ≤ 63 := HIN.out xi (by rw [← HIB.out]; exact hpre.subset (by simp))
    obtain ⟨x, rfl⟩ := Int.eq_ofNat_of_zero_le hxin.1
    have hx64 : (x : Int) < 64 := by omega
    have hDk := HD.out.gr hbl
    have hDc := hDk.word x (by omega)
    have hBc : W0.cell? ⟨w.heap.size, 0, none⟩ = some (.pointer (some ⟨D, 0, none⟩)) := heap_cell hbd 0
    have hBl := heap_lt hbd
    have hBn : ¬ (w.heap.size = w.heap.size + 1 + 1 ∨ w.heap.size = w.heap.size + 1 + 1 + 1) := by omega
    have hDlt := hDk.ltD
    have hDn : ¬ (D = w.heap.size + 1 + 1 ∨ D = w.heap.size + 1 + 1 + 1) := by omega
    have hgM := hrow.lt
    have hAM := heap_lt hbox
    have hgA : w.heap.size + 1 + 1 ≠ w.heap.size + 1 + 1 + 1 := by omega
    have hx0 : (0 : Int) ≤ (x : Int) := by omega
    gi_wp2_with fail
    refine wpIn_region_fl (by kernel_rfl) (by kernel_rfl) (fl_wordsL D (w.heap.size + 1 + 1 + 1) w.heap.size (w.heap.size + 1 + 1) n pre.length x (getZ s.words (x : Int)) W0.heap.size) (CW (w.heap.size + 1 + 1) (w.heap.size + 1 + 1 + 1) n pre.length ((pre.map (getZ s.words)).map (Value.int .i64)) (.int .i64 (getZ s.words (x : Int))) W0) [18, 19, 20, 21, 22, 23, 24, 25, 26] (by kernel_rfl) (by kernel_rfl) (by kernel_rfl) ?c0 ?looks ?done
    case looks =>
      intro hcl i o ho
      rcases i with _ | _ | _ | _ | _ | _ | _ | _ | _ | _ | i
      · simp at ho; subst ho
        refine fo_det (st_wordsL D (w.heap.size + 1 + 1 + 1) w.heap.size (w.heap.size + 1 + 1) n pre.length x (getZ s.words (x : Int)) W0.heap.size) hcl rfl rfl rfl rfl (by kernel_rfl) (fun _ _ h => CW.step (by decide) (by decide) h) (fun done ρ W hat => ?_)
        have e5 : ρ (.tmp 5) = .pointer (some ⟨(w.heap.size + 1 + 1 + 1), 0, none⟩) := hat.out 5 (by kernel_rfl)
        have hC := hat.cls
        have cA := hC.cA (hat.notyet 9 (by kernel_rfl))
        have hc := hat.con
        simp only [execOp, e5]
        go_simp
      · simp at ho; subst ho
        refine fo_det (st_wordsL D (w.heap.size + 1 + 1 + 1) w.heap.size (w.heap.size + 1 + 1) n pre.length x (getZ s.words (x : Int)) W0.heap.size) hcl rfl rfl rfl rfl (by kernel_rfl) (fun _ _ h => CW.step (by decide) (by decide) h) (fun done ρ W hat => ?_)
        have e2 : ρ (.tmp 2) = .pointer (some ⟨w.heap.size, 0, none⟩) := hat.out 2 (by kernel_rfl)
        have hC := hat.cls
        have cB := (hC.kept.cell (p := ⟨w.heap.size, 0, none⟩) hBl hBn).trans hBc
        have hc := hat.con
        simp only [execOp, e2]
        go_simp
      · simp at ho; subst ho
        refine fo_det (st_wordsL D (w.heap.size + 1 + 1 + 1) w.heap.size (w.heap.size + 1 + 1) n pre.length x (getZ s.words (x : Int)) W0.heap.size) hcl rfl rfl rfl rfl (by kernel_rfl) (fun _ _ h => CW.step (by decide) (by decide) h) (fun done ρ W hat => ?_)
        have e6 : ρ (.tmp 6) = .int .i64 (x : Int) := hat.out 6 (by kernel_rfl)
        have hC := hat.cls
        have hc := hat.con
        simp only [execOp, e6]
        go_simp
      · simp at ho; subst ho
        refine fo_det (st_wordsL D (w.heap.size + 1 + 1 + 1) w.heap.size (w.heap.size + 1 + 1) n pre.length x (getZ s.words (x : Int)) W0.heap.size) hcl rfl rfl rfl rfl (by kernel_rfl) (fun _ _ h => CW.step (by decide) (by decide) h) (fun done ρ W hat => ?_)
        have e19 : ρ (.tmp 19) = .pointer (some ⟨D, 0, none⟩) := fIs_at (d := 19) (v := .pointer (some ⟨D, 0, none⟩)) (hat.fact 1 (by kernel_rfl))
        have hC := hat.cls
        have hc := hat.con
        simp only [execOp, e19]
        go_simp
      · simp at ho; subst ho
        refine fo_det (st_wordsL D (w.heap.size + 1 + 1 + 1) w.heap.size (w.heap.size + 1 + 1) n pre.length x (getZ s.words (x : Int)) W0.heap.size) hcl rfl rfl rfl rfl (by kernel_rfl) (fun _ _ h => CW.step (by decide) (by decide) h) (fun done ρ W hat => ?_)
        have e21 : ρ (.tmp 21) = .pointer (some ⟨D, 0, none⟩) := fIs_at (d := 21) (v := .pointer (some ⟨D, 0, none⟩)) (hat.fact 3 (by kernel_rfl))
        have hC := hat.cls
        have hc := hat.con
        simp only [execOp, e21]
        go_simp
      · simp at ho; subst ho
        refine fo_det (st_wordsL D (w.heap.size + 1 + 1 + 1) w.heap.size (w.heap.size + 1 + 1) n pre.length x (getZ s.words (x : Int)) W0.heap.size) hcl rfl rfl rfl rfl (by kernel_rfl) (fun _ _ h => CW.step (by decide) (by decide) h) (fun done ρ W hat => ?_)
        have e20 : ρ (.tmp 20) = .int .i64 (x : Int) := fIs_at (d := 20) (v := .int .i64 (x : Int)) (hat.fact 2 (by kernel_rfl))
        have e22 : ρ (.tmp 22) = .pointer (some ⟨D, 0, none⟩) := fIs_at (d := 22) (v := .pointer (some ⟨D, 0, none⟩)) (hat.fact 4 (by kernel_rfl))
        have hC := hat.cls
        have hc := hat.con
        simp only [execOp, e20, e22]
        go_simp
      · simp at ho; subst ho
        refine fo_det (st_wordsL D (w.heap.size + 1 + 1 + 1) w.heap.size (w.heap.size + 1 + 1) n pre.length x (getZ s.words (x : Int)) W0.heap.size) hcl rfl rfl rfl rfl (by kernel_rfl) (fun _ _ h => CW.step (by decide) (by decide) h) (fun done ρ W hat => ?_)
        have e23 : ρ (.tmp 23) = .pointer (some ⟨D, x, none⟩) := fIs_at (d := 23) (v := .pointer (some ⟨D, x, none⟩)) (hat.fact 5 (by kernel_rfl))
        have hC := hat.cls
        have cW := (hC.kept.cell (p := ⟨D, x, none⟩) hDlt hDn).trans hDc
        have hc := hat.con
        simp only [execOp, e23]
        go_simp
      · simp at ho; subst ho
        refine fo_grow (st_wordsL D (w.heap.size + 1 + 1 + 1) w.heap.size (w.heap.size + 1 + 1) n pre.length x (getZ s.words (x : Int)) W0.heap.size) hcl rfl rfl (fun done ρ W hat => ?_)
        have e24 : ρ (.tmp 24) = .int .i64 (getZ s.words (x : Int)) := fIs_at (d := 24) (v := .int .i64 (getZ s.words (x : Int))) (hat.fact 6 (by kernel_rfl))
        have hC := hat.cls
        refine up_val (.slice (some ⟨W.heap.size, 0, none⟩) 1 1) (W.alloc (.cells #[.int .i64 (getZ s.words (x : Int))] 3)) (by simp only [execOp]; go_simp) ?_
        refine ⟨CW.grow (by decide) (by decide) hC (below_nw _ _), below_nw _ _, fK_mk (K := k7_wordsL D (w.heap.size + 1 + 1 + 1) w.heap.size (w.heap.size + 1 + 1) n pre.length x (getZ s.words (x : Int)) W0.heap.size) ⟨W.heap.size, updV_same _ _ _, hC.kept.size, nw_at _ rfl⟩, free_spec (by kernel_rfl) hat.lt⟩
      · simp at ho; subst ho
        refine fo_rel (S := Kept (fun k => k = (w.heap.size + 1 + 1) ∨ k = (w.heap.size + 1 + 1 + 1))) (E := []) (kept_wordsL D (w.heap.size + 1 + 1 + 1) w.heap.size (w.heap.size + 1 + 1) n pre.length x (getZ s.words (x : Int)) W0.heap.size hgM hAM) hcl rfl rfl (fun done ρ W hat => ?_)
        have e18 : ρ (.tmp 18) = .slice (some ⟨(w.heap.size + 1 + 1), 0, none⟩) pre.length n := fIs_at (d := 18) (v := .slice (some ⟨(w.heap.size + 1 + 1), 0, none⟩) pre.length n) (hat.fact 0 (by kernel_rfl))
        have hC := hat.cls
        obtain ⟨b, k1, k2, k3⟩ := (fK_at (d := 25) (K := k7_wordsL D (w.heap.size + 1 + 1 + 1) w.heap.size (w.heap.size + 1 + 1) n pre.length x (getZ s.words (x : Int)) W0.heap.size) (hat.fact 7 (by kernel_rfl)))
        refine up_app 23 3 i0 Tryz.underlying23 hi hz1 rfl e18 (hC.old hat.new) k1 (heap_cell k3 0) rfl hlen (fun W1 r1 r2 => ?_)
        refine ⟨hC.app hgA r1 r2, hC.kepts r2, fIs_mk (updV_same _ _ _), fun j hj hcj => ?_⟩
        exact free_spec (X := fun _ => _) (by kernel_rfl) hat.lt j hj (by simpa using hcj)
      · simp at ho; subst ho
        refine fo_rel (S := Kept (fun k => k = (w.heap.size + 1 + 1) ∨ k = (w.heap.size + 1 + 1 + 1))) (E := []) (kept_wordsL D (w.heap.size + 1 + 1 + 1) w.heap.size (w.heap.size + 1 + 1) n pre.length x (getZ s.words (x : Int)) W0.heap.size hgM hAM) hcl rfl rfl (fun done ρ W hat => ?_)
        have e5 : ρ (.tmp 5) = .pointer (some ⟨(w.heap.size + 1 + 1 + 1), 0, none⟩) := hat.out 5 (by kernel_rfl)
        have hC := hat.cls
        have e26 : ρ (.tmp 26) = .slice (some ⟨(w.heap.size + 1 + 1), 0, none⟩) (pre.length + 1) n := fIs_at (d := 26) (v := .slice (some ⟨(w.heap.size + 1 + 1), 0, none⟩) (pre.length + 1) n) (hat.fact 8 (by kernel_rfl))
        have cA := hC.cA hat.new
        have fA := hC.fA
        refine up_skip (W.setCell ⟨(w.heap.size + 1 + 1 + 1), 0, none⟩ (.slice (some ⟨(w.heap.size + 1 + 1), 0, none⟩) (pre.length + 1) n)) (by simp only [execOp]; go_simp) ⟨hC.store hgA, Kept.setCell (D := fun k => k = (w.heap.size + 1 + 1) ∨ k = (w.heap.size + 1 + 1 + 1)) (p := ⟨(w.heap.size + 1 + 1 + 1), 0, none⟩) _ (.inr rfl) _, trivial, fun j hj hcj => ?_⟩
        exact free_spec (X := fun _ => _) (by kernel_rfl) hat.lt j hj (by simpa using hcj)
      · simp at ho
    case c0 => exact ⟨Kept.drew _ _, hrow.of rfl, hbox⟩
    case done =>
      intro f W hC hf hout
      have hr : ORow 3 1 W (w.heap.size + 1 + 1) n (pre.length + 1) ((pre.map (getZ s.words)).map (Value.int .i64) ++ [.int .i64 (getZ s.words (x : Int))]) := hC.row
      have hb : W.heap[w.heap.size + 1 + 1 + 1]? = some (.cells #[.slice (some ⟨w.heap.size + 1 + 1, 0, none⟩) (pre.length + 1) n] 23 (0, 0)) := hC.box
      have hk := hC.kept
      refine ⟨hk, ?_, ?_, (hk.block _ hBl hBn).trans hbd, ?_⟩
      · rw [List.length_append, List.map_append, List.map_append]
        exact hr
      · rw [List.length_append]; exact hb
      · exact hbl.trans ⟨hk.os, hk.tape, hk.output, hk.size, fun k hk' => hk.block k (by have := hbl.size; omega) (by omega)⟩
  case fin =>
    rintro B W' hB ⟨hrow, hbox, hbd, hbl⟩ hK
    have cA : W'.cell? ⟨w.heap.size + 1 + 1 + 1, 0, none⟩ = some (.slice (some ⟨w.heap.size + 1 + 1, 0, none⟩) (itL addr n wrap).length n) := heap_cell hbox 0
    have HR := Hid.intro hrow
    have HB := Hid.intro hbl
    have hlA := heap_lt hbox
    clear hrow hbl hbox
    gi_wp2
    refine ⟨by simp, .inl ⟨_, _, rfl, run_takeDeferred hK, ?_⟩⟩
    have hput : Below w.heap.size W' (W'.putObj B (.deferred none)) := below_putObj _ (by omega) _
    refine ⟨_, results_tmp rfl _ _ _, w.heap.size + 1 + 1, n, ?_, ?_, ?_, by omega, by omega, HB.out.trans hput⟩
    · rw [getAll_len, ← HIB.out]; rfl
    · rw [getAll_len, ← HIB.out]
      exact HR.out.of (World.putObj_heap_other (o := .deferred none) (show w.heap.size + 1 + 1 ≠ B by omega))
    · rw [getAll_len, ← HIB.out, itL_len]; exact Nat.le_refl _

end Go.Proofs.YtpamjkkghghggaaGreat

/-
  put of the program's desk: the words of a burst are written, and its addresses freed.
-/
namespace Go.Proofs.YtpamjkkghghggaaGreat
open Go.RowKit Go.Shelf
set_option linter.unusedSimpArgs false
set_option linter.unusedVariables false
attribute [local go_sem] Oper.semAt_some

/-- a round that turns the block D at its operation 22 -/
def CS (D : Nat) (T : TypeId) (c0 c1 : Array Value) (W0 : World) : (Nat → Bool) → World → Prop := fun d W => Kept (fun k => k = D) W0 W ∧ W.heap[D]? = some (.cells (if d 22 then c1 else c0) T (0, 0))
theorem CS.step {D : Nat} {T : TypeId} {c0 c1 : Array Value} {W0 W : World} {d : Nat → Bool} {i : Nat} (hi : 22 ≠ i) (h : CS D T c0 c1 W0 d W) : CS D T c0 c1 W0 (updB d i) W := by
  unfold CS; rw [updB_ne d hi]; exact h
theorem CS.grow {D : Nat} {T : TypeId} {c0 c1 : Array Value} {W0 W W' : World} {d : Nat → Bool} {i : Nat} (hi : 22 ≠ i) (h : CS D T c0 c1 W0 d W) (hg : Gr W W') : CS D T c0 c1 W0 (updB d i) W' := by
  unfold CS; rw [updB_ne d hi]; exact ⟨h.1.trans (Kept.of_below hg), hg.cells h.2⟩
theorem CS.word {D : Nat} {T : TypeId} {c0 c1 : Array Value} {W0 W : World} {d : Nat → Bool} (h : CS D T c0 c1 W0 d W) (hd : d 22 = false) {x : Nat} {v : Value} (hv : c0[x]? = some v) : W.cell? ⟨D, x, none⟩ = some v := by
  have := h.2; rw [hd] at this; rw [heap_cell this x]; exact hv
theorem CS.free {D : Nat} {T : TypeId} {c0 c1 : Array Value} {W0 W : World} {d : Nat → Bool} (h : CS D T c0 c1 W0 d W) (x : Nat) : W.frozen? ⟨D, x, none⟩ = false := heap_free h.2 x
theorem CS.store {D : Nat} {T : TypeId} {c0 c1 : Array Value} {W0 W : World} {d : Nat → Bool} (h : CS D T c0 c1 W0 d W) {x : Nat} {v : Value} (hn : ∀ W, CS D T c0 c1 W0 d W → (W.setCell ⟨D, x, none⟩ v).heap[D]? = some (.cells c1 T (0, 0))) : CS D T c0 c1 W0 (updB d 22) (W.setCell ⟨D, x, none⟩ v) := by
  unfold CS; rw [updB_self]
  exact ⟨h.1.trans (Kept.setCell (D := fun k => k = D) (p := ⟨D, x, none⟩) _ rfl _), hn W h⟩

theorem deskC_set {ws : List Int} {H x : Nat} (h : ws.length = 64) (hx : x < 64) (v : Int) : (deskC ws H).setIfInBounds x (.int .i64 v) = deskC (ws.set x v) H := by
  unfold deskC
  simp [List.setIfInBounds_toArray, List.set_append_left, h, hx, List.map_set]
theorem deskC_get {ws : List Int} {H x : Nat} (h : ws.length = 64) (hx : x < 64) : (deskC ws H)[x]? = some (.int .i64 (getZ ws (x : Int))) := by
  unfold deskC getZ
  simp [List.getElem?_append_left, h, hx, List.getD_eq_getElem?_getD]
theorem free_snoc {hs pre : List Int} {x : Int} (hp : ∀ y ∈ pre, 0 ≤ y) (hx : 0 ≤ x) : freeAll (freeAll hs pre) [x] = freeAll hs (pre ++ [x]) := by
  simp only [freeAll, List.map_map]
  refine List.map_congr_left fun h _ => ?_
  unfold free1
  simp only [Function.comp, List.mem_append, List.mem_singleton]
  by_cases h1 : h ∈ pre
  · simp only [h1, if_true, true_or]
    rw [if_neg (by omega)]
  · simp only [h1, if_false, false_or]
theorem pre_take {pre all : List Int} {x : Int} (h : pre ++ [x] <+: all) : pre = all.take pre.length ∧ all.getD pre.length 0 = x := by
  obtain ⟨t, rfl⟩ := h
  constructor
  · simp
  · simp [List.getD_eq_getElem?_getD]

def fl_putL (D Bd Br K x k bd od bl ol ld ll cd cl : Nat) (v dk lk : Int) : List Fact := [
  fIs 14 (.pointer (some ⟨D, 0, none⟩)),
  fIs 15 (.int .i64 (x : Int)),
  fIs 16 (.pointer (some ⟨D, 0, none⟩)),
  fIs 17 (.int .i64 (x : Int)),
  fIs 18 (.pointer (some ⟨D, 0, none⟩)),
  fIs 19 (.pointer (some ⟨D, 0, none⟩)),
  fIs 20 (.pointer (some ⟨D, x, none⟩)),
  fIs 21 (.int .i64 v),
  fIs 22 (.pointer (some ⟨Br, 5, none⟩)),
  fIs 23 (.slice (some ⟨bd, od, none⟩) ld cd),
  fIs 24 (.int .i64 (k : Int)),
  fIs 25 (.pointer (some ⟨bd, od + k, none⟩)),
  fIs 26 (.int .i64 dk),
  fIs 27 (.pointer (some ⟨Br, 6, none⟩)),
  fIs 28 (.slice (some ⟨bl, ol, none⟩) ll cl),
  fIs 29 (.int .i64 (k : Int)),
  fIs 30 (.pointer (some ⟨bl, ol + k, none⟩)),
  fIs 31 (.int .i64 lk),
  fIs 32 (.int .i64 (wrdPutZ v dk lk)),
  fIs 33 (.pointer (some ⟨D, 0, none⟩)),
  fIs 34 (.pointer (some ⟨D, 0, none⟩)),
  fIs 35 (.pointer (some ⟨D, x, none⟩)),
  ⟨[], [], fun _ _ _ => True⟩]

theorem st_putL (D Bd Br K x k bd od bl ol ld ll cd cl : Nat) (v dk lk : Int) : ∀ F ∈ fl_putL D Bd Br K x k bd od bl ol ld ll cd cl v dk lk, F.Stab :=
  stab_cons (fIs_stab _ _) <|
  stab_cons (fIs_stab _ _) <|
  stab_cons (fIs_stab _ _) <|
  stab_cons (fIs_stab _ _) <|
  stab_cons (fIs_stab _ _) <|
  stab_cons (fIs_stab _ _) <|
  stab_cons (fIs_stab _ _) <|
  stab_cons (fIs_stab _ _) <|
  stab_cons (fIs_stab _ _) <|
  stab_cons (fIs_stab _ _) <|
  stab_cons (fIs_stab _ _) <|
  stab_cons (fIs_stab _ _) <|
  stab_cons (fIs_stab _ _) <|
  stab_cons (fIs_stab _ _) <|
  stab_cons (fIs_stab _ _) <|
  stab_cons (fIs_stab _ _) <|
  stab_cons (fIs_stab _ _) <|
  stab_cons (fIs_stab _ _) <|
  stab_cons (fIs_stab _ _) <|
  stab_cons (fIs_stab _ _) <|
  stab_cons (fIs_stab _ _) <|
  stab_cons (fIs_stab _ _) <|
  stab_cons (fun _ _ _ _ _ h => h) stab_nil

theorem still_putL (D Bd Br K x k bd od bl ol ld ll cd cl : Nat) (v dk lk : Int) : ∀ j s d w w', (factsOf (fl_putL D Bd Br K x k bd od bl ol ld ll cd cl v dk lk) j).body s d w → (factsOf (fl_putL D Bd Br K x k bd od bl ol ld ll cd cl v dk lk) j).body s d w' := by
  intro j s d w w' hb
  rcases j with _ | _ | _ | _ | _ | _ | _ | _ | _ | _ | _ | _ | _ | _ | _ | _ | _ | _ | _ | _ | _ | _ | _ | j
  all_goals exact hb

set_option maxRecDepth 100000 in
set_option maxHeartbeats 1000000 in
theorem put_any (w0 : World) (D H : Nat) (s : Stt) (r : Req) (pd pl : Option Addr) (cd cl : Nat) (w : World) (hbw : Below w0.heap.size w0 w) (h : Desk w D H s) (hr : ReqAt w0 r pd cd pl cl) (hMD : w0.heap.size ≤ D) (hMH : w0.heap.size ≤ H)
    (hok : adrOkB r.addr r.many r.wrap = true) (hd : (r.data.length : Int) = r.many) (hl : (r.lanes.length : Int) = r.many) :
    Calls Tryz.prog 120 #[.pointer (some ⟨D, 0, none⟩), reqV r pd cd pl cl] w fun e w' => (∃ v, e = .returned v) ∧ Desk w' D H ⟨putAll s.words (burst r.addr r.many r.wrap) r.data r.lanes, freeAll s.holds (burst r.addr r.many r.wrap)⟩ ∧ Kept (fun k => k = D ∨ k = H) w w' := by
  obtain ⟨id, kind, addr, many, wrap, data, lanes⟩ := r
  simp only at hok hd hl
  obtain ⟨h1, h2, h3, h4⟩ := (adrOk_iff addr many wrap).1 hok
  obtain ⟨n, rfl⟩ := Int.eq_ofNat_of_zero_le (show 0 ≤ many by omega)
  have hn1 : 1 ≤ n := by omega
  have hn4 : n ≤ 4 := by omega
  have HIB := Hid.intro (itL_burst hok)
  have HIN := Hid.intro (fun x hx => burst_in (x := addr) (m := (n : Int)) (wrap := wrap) x hx)
  clear h3 h4 hok
  have hDl := h.ltD
  have hHl := h.ltH
  have hne := h.ne
  have hw64 := h.wl
  have hws := hbw.size
  have HD := Hid.intro h
  have HR := Hid.intro hr
  have HBW := Hid.intro hbw
  clear h hr hbw
  obtain ⟨ws, hs⟩ := s
  simp only at hw64
  unfold reqV
  simp only
  refine (callsIn_wide (n := 9)).1 ?_
  refine callsIn_of_wp_marks Tryz.func120 rfl trivial ?_ rfl
  simp only [Tryz.ntmps120, List.size_toArray, List.length_cons, List.length_nil, Nat.reduceAdd, Nat.reduceSub, Array.replicate_succ, Array.replicate_zero, List.push_toArray, List.append_toArray, List.nil_append, List.cons_append]
  gi_wp2_with (show Fence.wide.fn 84 ∧ _; refine ⟨trivial, ?_⟩; refine (callsIn_wide.2 (burst_any addr n wrap _)).mono ?_; rintro e w' ⟨rfl, hw⟩; subst hw)
  obtain ⟨V0, hV0⟩ : ∃ V0, (((((w.alloc (Obj.cells #[.pointer (some ⟨D, 0, none⟩)] 75)).alloc (Obj.cells #[.int .i64 id, .int .i64 kind, .int .i64 addr, .int .i64 (n : Int), .bool wrap, .slice pd data.length cd, .slice pl lanes.length cl] 66)).alloc (Obj.cells #[.int .i64 0] 3)).alloc (Obj.cells #[.int .i64 addr] 94)).alloc (Obj.cells #[.int .i64 (n : Int)] 3)) = V0 := ⟨_, rfl⟩
  have hs0 : V0.heap.size = w.heap.size + 5 := by rw [← hV0]; simp
  have hb0 : Below w.heap.size w V0 := by
    rw [← hV0]; exact (((((Below.refl _ w).alloc (Nat.le_refl _) _).alloc (by simp) _).alloc (by simp <;> omega) _).alloc (by simp <;> omega) _).alloc (by simp <;> omega) _
  have hBd0 : V0.heap[w.heap.size]? = some (.cells #[.pointer (some ⟨D, 0, none⟩)] 75 (0, 0)) := by
    rw [← hV0]; exact (Below.heap_alloc _ _ _ (by simp <;> omega)).trans ((Below.heap_alloc _ _ _ (by simp <;> omega)).trans ((Below.heap_alloc _ _ _ (by simp <;> omega)).trans ((Below.heap_alloc _ _ _ (by simp)).trans (nw_at _ rfl))))
  have hBr0 : V0.heap[w.heap.size + 1]? = some (.cells #[.int .i64 id, .int .i64 kind, .int .i64 addr, .int .i64 (n : Int), .bool wrap, .slice pd data.length cd, .slice pl lanes.length cl] 66 (0, 0)) := by
    rw [← hV0]; exact (Below.heap_alloc _ _ _ (by simp <;> omega)).trans ((Below.heap_alloc _ _ _ (by simp <;> omega)).trans ((Below.heap_alloc _ _ _ (by simp)).trans (nw_at _ (by simp))))
  have hK0 : V0.heap[w.heap.size + 1 + 1]? = some (.cells #[.int .i64 0] 3 (0, 0)) := by
    rw [← hV0]; exact (Below.heap_alloc _ _ _ (by simp)).trans ((Below.heap_alloc _ _ _ (by simp)).trans (nw_at _ (by simp)))
  have c2 : V0.cell? ⟨w.heap.size + 1 + 1 + 1, 0, none⟩ = some (.int .i64 addr) := heap_cell (show V0.heap[w.heap.size + 1 + 1 + 1]? = some (.cells #[.int .i64 addr] 94 (0, 0)) by rw [← hV0]; exact (Below.heap_alloc _ _ _ (by simp)).trans (nw_at _ (by simp))) 0
  have c3 : V0.cell? ⟨w.heap.size + 1 + 1 + 1 + 1, 0, none⟩ = some (.int .i64 n) := heap_cell (show V0.heap[w.heap.size + 1 + 1 + 1 + 1]? = some (.cells #[.int .i64 (n : Int)] 3 (0, 0)) by rw [← hV0]; exact nw_at _ (by simp)) 0
  rw [hV0]
  clear hV0
  obtain ⟨gf, lb, hgf, heg, hit⟩ := burst_it addr n (w.heap.size + 1 + 1 + 1) wrap h1 h2 hn1 hn4
  refine wpIn_range (gf := gf) (lb := lb) hgf heg hit
    (fun W' hb => ⟨(hb.cell (p := ⟨_, 0, none⟩) (by show w.heap.size + 1 + 1 + 1 < _; omega)).trans c2, (hb.cell (p := ⟨_, 0, none⟩) (by show w.heap.size + 1 + 1 + 1 + 1 < _; omega)).trans c3⟩)
    (fun k => k = D ∨ k = H ∨ k = w.heap.size + 1 + 1) (fun k hk => by omega)
    (fun k hk => ⟨fun e => by omega, by omega⟩) rfl
    (fun pre W' => Desk W' D H ⟨putN ws (itL addr n wrap) data lanes pre.length, freeAll hs pre⟩ ∧ W'.heap[w.heap.size]? = some (.cells #[.pointer (some ⟨D, 0, none⟩)] 75 (0, 0)) ∧
      W'.heap[w.heap.size + 1]? = some (.cells #[.int .i64 id, .int .i64 kind, .int .i64 addr, .int .i64 (n : Int), .bool wrap, .slice pd data.length cd, .slice pl lanes.length cl] 66 (0, 0)) ∧
      W'.heap[w.heap.size + 1 + 1]? = some (.cells #[.int .i64 (pre.length : Int)] 3 (0, 0)) ∧ Kept (fun k => k = D ∨ k = H) w W')
    (fun s A B hs hb => ⟨hs.1.of (hb.block _ (by omega)) (hb.block _ (by omega)), (hb.block _ (by omega)).trans hs.2.1, (hb.block _ (by omega)).trans hs.2.2.1, (hb.block _ (by omega)).trans hs.2.2.2.1, hs.2.2.2.2.below hb (by omega)⟩)
    ⟨by have e : freeAll hs [] = hs := (List.map_congr_left (fun h _ => free1_nil h)).trans (List.map_id _)
        show Desk V0 D H ⟨putN ws (itL addr n wrap) data lanes 0, freeAll hs []⟩
        rw [e]; exact HD.out.gr hb0, hBd0, hBr0, hK0, Kept.of_below hb0⟩
    ?a1 ?assign ?body ?fin
  case assign =>
    intro l' x W' m K hK
    gi_wp2
    exact hK
  case body =>
    rintro l' pre xi W0 m ⟨hDk, hbd, hbr, hbk, hkp⟩ hpre
    have hlen : pre.length + 1 ≤ n := by
      have := hpre.length_le
      rw [itL_len] at this
      simpa using this
    have hxin : 0 ≤ xi ∧ xi ≤ 63 := HIN.out xi (by rw [← HIB.out]; exact hpre.subset (by simp))
    have HPI := Hid.intro (fun y hy => (HIN.out y (by rw [← HIB.out]; exact hpre.subset (List.mem_append_left _ hy))).1)
    obtain ⟨x, rfl⟩ := Int.eq_ofNat_of_zero_le hxin.1
    obtain ⟨hpt, hpx⟩ := pre_take hpre
    have hx64 : (x : Int) < 64 := by omega
    have hx0 : (0 : Int) ≤ (x : Int) := by omega
    have hk0 : (0 : Int) ≤ (pre.length : Int) := by omega
    have hkd : (pre.length : Int) < (data.length : Int) := by omega
    have hkl : (pre.length : Int) < (lanes.length : Int) := by omega
    have hBc : W0.cell? ⟨w.heap.size, 0, none⟩ = some (.pointer (some ⟨D, 0, none⟩)) := heap_cell hbd 0
    have hBl := heap_lt hbd
    have hBn : ¬ (w.heap.size = D) := by omega
    have hR5 : W0.cell? ⟨w.heap.size + 1, 5, none⟩ = some (.slice pd data.length cd) := heap_cell hbr 5
    have hR6 : W0.cell? ⟨w.heap.size + 1, 6, none⟩ = some (.slice pl lanes.length cl) := heap_cell hbr 6
    have hRl := heap_lt hbr
    have hRn : ¬ (w.heap.size + 1 = D) := by omega
    have hKc : W0.cell? ⟨w.heap.size + 1 + 1, 0, none⟩ = some (.int .i64 (pre.length : Int)) := heap_cell hbk 0
    have hKl := heap_lt hbk
    have hKn : ¬ (w.heap.size + 1 + 1 = D) := by omega
    have hDlt := hDk.ltD
    have hpw : (putN ws (itL addr n wrap) data lanes pre.length).length = 64 := by rw [putN_len]; exact hw64
    rcases HR.out.data with hx | ⟨bd, od, rfl, hbd1, hcd⟩
    · simp only at hx; subst hx; simp at hkd; omega
    rcases HR.out.lanes with hx | ⟨bl, ol, rfl, hbl1, hcl⟩
    · simp only at hx; subst hx; simp at hkl; omega
    simp only at hcd hcl
    have hdc : W0.cell? ⟨bd, od + pre.length, none⟩ = some (.int .i64 data[pre.length]) := (hkp.cell (p := ⟨bd, od + pre.length, none⟩) (by show bd < _; omega) (by show ¬ (bd = D ∨ bd = H); omega)).trans ((HBW.out.cell (p := ⟨bd, od + pre.length, none⟩) hbd1).trans (hcd _ (by omega)))
    have hlc : W0.cell? ⟨bl, ol + pre.length, none⟩ = some (.int .i64 lanes[pre.length]) := (hkp.cell (p := ⟨bl, ol + pre.length, none⟩) (by show bl < _; omega) (by show ¬ (bl = D ∨ bl = H); omega)).trans ((HBW.out.cell (p := ⟨bl, ol + pre.length, none⟩) hbl1).trans (hcl _ (by omega)))
    have hkps := hkp.size
    have hdl : bd < W0.heap.size := by omega
    have hdn : ¬ (bd = D) := by omega
    have hll : bl < W0.heap.size := by omega
    have hln : ¬ (bl = D) := by omega
    clear hcd hcl
    have HST : Hid ((putN ws (itL addr n wrap) data lanes pre.length).set x (wrdPutZ (getZ (putN ws (itL addr n wrap) data lanes pre.length) (x : Int)) data[pre.length] lanes[pre.length]) = putN ws (itL addr n wrap) data lanes (pre.length + 1)) := by
      refine Hid.intro ?_
      rw [putN, put1, hpx]
      simp [List.getD_eq_getElem?_getD, show pre.length < data.length by omega, show pre.length < lanes.length by omega]
    generalize data[pre.length] = dk at hdc HST
    generalize lanes[pre.length] = lk at hlc HST
    have hcv := deskC_get (H := H) hpw (show x < 64 by omega)
    generalize hv : getZ (putN ws (itL addr n wrap) data lanes pre.length) (x : Int) = v at hcv HST
    clear hv
    have hnew : ∀ {d : Nat → Bool}, d 22 = false → ∀ W, CS D 93 (deskC (putN ws (itL addr n wrap) data lanes pre.length) H) (deskC (putN ws (itL addr n wrap) data lanes (pre.length + 1)) H) W0 d W → (W.setCell ⟨D, x, none⟩ (.int .i64 (wrdPutZ v dk lk))).heap[D]? = some (.cells (deskC (putN ws (itL addr n wrap) data lanes (pre.length + 1)) H) 93 (0, 0)) := by
      intro d hd W hC
      have := hC.2
      rw [hd] at this
      rw [heap_set this x _, ← HST.out]
      show some (Obj.cells ((deskC (putN ws (itL addr n wrap) data lanes pre.length) H).setIfInBounds x _) _ _) = _
      rw [deskC_set hpw (by omega)]
    have HPX := Hid.intro hpx
    clear hpt hpx hd hl
    gi_wp2_with fail
    refine wpIn_region_fl (by kernel_rfl) (by kernel_rfl) (fl_putL D w.heap.size (w.heap.size + 1) (w.heap.size + 1 + 1) x pre.length bd od bl ol data.length lanes.length cd cl v dk lk) (CS D 93 (deskC (putN ws (itL addr n wrap) data lanes pre.length) H) (deskC (putN ws (itL addr n wrap) data lanes (pre.length + 1)) H) W0) [14, 15, 16, 17, 18, 19, 20, 21, 22, 23, 24, 25, 26, 27, 28, 29, 30, 31, 32, 33, 34, 35] (by kernel_rfl) (by kernel_rfl) (by kernel_rfl) ?c0 ?looks ?done
    case looks =>
      intro hcl i o ho
      rcases i with _ | _ | _ | _ | _ | _ | _ | _ | _ | _ | _ | _ | _ | _ | _ | _ | _ | _ | _ | _ | _ | _ | _ | i
      · simp at ho; subst ho
        refine fo_det (st_putL D w.heap.size (w.heap.size + 1) (w.heap.size + 1 + 1) x pre.length bd od bl ol data.length lanes.length cd cl v dk lk) hcl rfl rfl rfl rfl (by kernel_rfl) (fun _ _ h => CS.step (by decide) h) (fun done ρ W hat => ?_)
        have e2 : ρ (.tmp 2) = .pointer (some ⟨w.heap.size, 0, none⟩) := hat.out 2 (by kernel_rfl)
        have hC := hat.cls
        have cB := (hC.1.cell (p := ⟨w.heap.size, 0, none⟩) hBl hBn).trans hBc
        have hc := hat.con
        simp only [execOp, e2]
        go_simp
      · simp at ho; subst ho
        refine fo_det (st_putL D w.heap.size (w.heap.size + 1) (w.heap.size + 1 + 1) x pre.length bd od bl ol data.length lanes.length cd cl v dk lk) hcl rfl rfl rfl rfl (by kernel_rfl) (fun _ _ h => CS.step (by decide) h) (fun done ρ W hat => ?_)
        have e5 : ρ (.tmp 5) = .int .i64 (x : Int) := hat.out 5 (by kernel_rfl)
        have hC := hat.cls
        have hc := hat.con
        simp only [execOp, e5]
        go_simp
      · simp at ho; subst ho
        refine fo_det (st_putL D w.heap.size (w.heap.size + 1) (w.heap.size + 1 + 1) x pre.length bd od bl ol data.length lanes.length cd cl v dk lk) hcl rfl rfl rfl rfl (by kernel_rfl) (fun _ _ h => CS.step (by decide) h) (fun done ρ W hat => ?_)
        have e2 : ρ (.tmp 2) = .pointer (some ⟨w.heap.size, 0, none⟩) := hat.out 2 (by kernel_rfl)
        have hC := hat.cls
        have cB := (hC.1.cell (p := ⟨w.heap.size, 0, none⟩) hBl hBn).trans hBc
        have hc := hat.con
        simp only [execOp, e2]
        go_simp
      · simp at ho; subst ho
        refine fo_det (st_putL D w.heap.size (w.heap.size + 1) (w.heap.size + 1 + 1) x pre.length bd od bl ol data.length lanes.length cd cl v dk lk) hcl rfl rfl rfl rfl (by kernel_rfl) (fun _ _ h => CS.step (by decide) h) (fun done ρ W hat => ?_)
        have e5 : ρ (.tmp 5) = .int .i64 (x : Int) := hat.out 5 (by kernel_rfl)
        have hC := hat.cls
        have hc := hat.con
        simp only [execOp, e5]
        go_simp
      · simp at ho; subst ho
        refine fo_det (st_putL D w.heap.size (w.heap.size + 1) (w.heap.size + 1 + 1) x pre.length bd od bl ol data.length lanes.length cd cl v dk lk) hcl rfl rfl rfl rfl (by kernel_rfl) (fun _ _ h => CS.step (by decide) h) (fun done ρ W hat => ?_)
        have e16 : ρ (.tmp 16) = .pointer (some ⟨D, 0, none⟩) := fIs_at (d := 16) (v := .pointer (some ⟨D, 0, none⟩)) (hat.fact 2 (by kernel_rfl))
        have hC := hat.cls
        have hc := hat.con
        simp only [execOp, e16]
        go_simp
      · simp at ho; subst ho
        refine fo_det (st_putL D w.heap.size (w.heap.size + 1) (w.heap.size + 1 + 1) x pre.length bd od bl ol data.length lanes.length cd cl v dk lk) hcl rfl rfl rfl rfl (by kernel_rfl) (fun _ _ h => CS.step (by decide) h) (fun done ρ W hat => ?_)
        have e18 : ρ (.tmp 18) = .pointer (some ⟨D, 0, none⟩) := fIs_at (d := 18) (v := .pointer (some ⟨D, 0, none⟩)) (hat.fact 4 (by kernel_rfl))
        have hC := hat.cls
        have hc := hat.con
        simp only [execOp, e18]
        go_simp
      · simp at ho; subst ho
        refine fo_det (st_putL D w.heap.size (w.heap.size + 1) (w.heap.size + 1 + 1) x pre.length bd od bl ol data.length lanes.length cd cl v dk lk) hcl rfl rfl rfl rfl (by kernel_rfl) (fun _ _ h => CS.step (by decide) h) (fun done ρ W hat => ?_)
        have e17 : ρ (.tmp 17) = .int .i64 (x : Int) := fIs_at (d := 17) (v := .int .i64 (x : Int)) (hat.fact 3 (by kernel_rfl))
        have e19 : ρ (.tmp 19) = .pointer (some ⟨D, 0, none⟩) := fIs_at (d := 19) (v := .pointer (some ⟨D, 0, none⟩)) (hat.fact 5 (by kernel_rfl))
        have hC := hat.cls
        have hc := hat.con
        simp only [execOp, e17, e19]
        go_simp
      · simp at ho; subst ho
        refine fo_det (st_putL D w.heap.size (w.heap.size + 1) (w.heap.size + 1 + 1) x pre.length bd od bl ol data.length lanes.length cd cl v dk lk) hcl rfl rfl rfl rfl (by kernel_rfl) (fun _ _ h => CS.step (by decide) h) (fun done ρ W hat => ?_)
        have e20 : ρ (.tmp 20) = .pointer (some ⟨D, x, none⟩) := fIs_at (d := 20) (v := .pointer (some ⟨D, x, none⟩)) (hat.fact 6 (by kernel_rfl))
        have hC := hat.cls
        have cW := hC.word (hat.notyet 22 (by kernel_rfl)) hcv
        have hc := hat.con
        simp only [execOp, e20]
        go_simp
      · simp at ho; subst ho
        refine fo_det (st_putL D w.heap.size (w.heap.size + 1) (w.heap.size + 1 + 1) x pre.length bd od bl ol data.length lanes.length cd cl v dk lk) hcl rfl rfl rfl rfl (by kernel_rfl) (fun _ _ h => CS.step (by decide) h) (fun done ρ W hat => ?_)
        have e3 : ρ (.tmp 3) = .pointer (some ⟨(w.heap.size + 1), 0, none⟩) := hat.out 3 (by kernel_rfl)
        have hC := hat.cls
        have hc := hat.con
        simp only [execOp, e3]
        go_simp
      · simp at ho; subst ho
        refine fo_det (st_putL D w.heap.size (w.heap.size + 1) (w.heap.size + 1 + 1) x pre.length bd od bl ol data.length lanes.length cd cl v dk lk) hcl rfl rfl rfl rfl (by kernel_rfl) (fun _ _ h => CS.step (by decide) h) (fun done ρ W hat => ?_)
        have e22 : ρ (.tmp 22) = .pointer (some ⟨(w.heap.size + 1), 5, none⟩) := fIs_at (d := 22) (v := .pointer (some ⟨(w.heap.size + 1), 5, none⟩)) (hat.fact 8 (by kernel_rfl))
        have hC := hat.cls
        have c5 := (hC.1.cell (p := ⟨w.heap.size + 1, 5, none⟩) hRl hRn).trans hR5
        have hc := hat.con
        simp only [execOp, e22]
        go_simp
      · simp at ho; subst ho
        refine fo_det (st_putL D w.heap.size (w.heap.size + 1) (w.heap.size + 1 + 1) x pre.length bd od bl ol data.length lanes.length cd cl v dk lk) hcl rfl rfl rfl rfl (by kernel_rfl) (fun _ _ h => CS.step (by decide) h) (fun done ρ W hat => ?_)
        have e4 : ρ (.tmp 4) = .pointer (some ⟨(w.heap.size + 1 + 1), 0, none⟩) := hat.out 4 (by kernel_rfl)
        have hC := hat.cls
        have cK := (hC.1.cell (p := ⟨w.heap.size + 1 + 1, 0, none⟩) hKl hKn).trans hKc
        have hc := hat.con
        simp only [execOp, e4]
        go_simp
      · simp at ho; subst ho
        refine fo_det (st_putL D w.heap.size (w.heap.size + 1) (w.heap.size + 1 + 1) x pre.length bd od bl ol data.length lanes.length cd cl v dk lk) hcl rfl rfl rfl rfl (by kernel_rfl) (fun _ _ h => CS.step (by decide) h) (fun done ρ W hat => ?_)
        have e23 : ρ (.tmp 23) = .slice (some ⟨bd, od, none⟩) data.length cd := fIs_at (d := 23) (v := .slice (some ⟨bd, od, none⟩) data.length cd) (hat.fact 9 (by kernel_rfl))
        have e24 : ρ (.tmp 24) = .int .i64 (pre.length : Int) := fIs_at (d := 24) (v := .int .i64 (pre.length : Int)) (hat.fact 10 (by kernel_rfl))
        have hC := hat.cls
        have hc := hat.con
        simp only [execOp, e23, e24]
        go_simp
      · simp at ho; subst ho
        refine fo_det (st_putL D w.heap.size (w.heap.size + 1) (w.heap.size + 1 + 1) x pre.length bd od bl ol data.length lanes.length cd cl v dk lk) hcl rfl rfl rfl rfl (by kernel_rfl) (fun _ _ h => CS.step (by decide) h) (fun done ρ W hat => ?_)
        have e25 : ρ (.tmp 25) = .pointer (some ⟨bd, od + pre.length, none⟩) := fIs_at (d := 25) (v := .pointer (some ⟨bd, od + pre.length, none⟩)) (hat.fact 11 (by kernel_rfl))
        have hC := hat.cls
        have cD := (hC.1.cell (p := ⟨bd, od + pre.length, none⟩) hdl hdn).trans hdc
        have hc := hat.con
        simp only [execOp, e25]
        go_simp
      · simp at ho; subst ho
        refine fo_det (st_putL D w.heap.size (w.heap.size + 1) (w.heap.size + 1 + 1) x pre.length bd od bl ol data.length lanes.length cd cl v dk lk) hcl rfl rfl rfl rfl (by kernel_rfl) (fun _ _ h => CS.step (by decide) h) (fun done ρ W hat => ?_)
        have e3 : ρ (.tmp 3) = .pointer (some ⟨(w.heap.size + 1), 0, none⟩) := hat.out 3 (by kernel_rfl)
        have hC := hat.cls
        have hc := hat.con
        simp only [execOp, e3]
        go_simp
      · simp at ho; subst ho
        refine fo_det (st_putL D w.heap.size (w.heap.size + 1) (w.heap.size + 1 + 1) x pre.length bd od bl ol data.length lanes.length cd cl v dk lk) hcl rfl rfl rfl rfl (by kernel_rfl) (fun _ _ h => CS.step (by decide) h) (fun done ρ W hat => ?_)
        have e27 : ρ (.tmp 27) = .pointer (some ⟨(w.heap.size + 1), 6, none⟩) := fIs_at (d := 27) (v := .pointer (some ⟨(w.heap.size + 1), 6, none⟩)) (hat.fact 13 (by kernel_rfl))
        have hC := hat.cls
        have c6 := (hC.1.cell (p := ⟨w.heap.size + 1, 6, none⟩) hRl hRn).trans hR6
        have hc := hat.con
        simp only [execOp, e27]
        go_simp
      · simp at ho; subst ho
        refine fo_det (st_putL D w.heap.size (w.heap.size + 1) (w.heap.size + 1 + 1) x pre.length bd od bl ol data.length lanes.length cd cl v dk lk) hcl rfl rfl rfl rfl (by kernel_rfl) (fun _ _ h => CS.step (by decide) h) (fun done ρ W hat => ?_)
        have e4 : ρ (.tmp 4) = .pointer (some ⟨(w.heap.size + 1 + 1), 0, none⟩) := hat.out 4 (by kernel_rfl)
        have hC := hat.cls
        have cK := (hC.1.cell (p := ⟨w.heap.size + 1 + 1, 0, none⟩) hKl hKn).trans hKc
        have hc := hat.con
        simp only [execOp, e4]
        go_simp
      · simp at ho; subst ho
        refine fo_det (st_putL D w.heap.size (w.heap.size + 1) (w.heap.size + 1 + 1) x pre.length bd od bl ol data.length lanes.length cd cl v dk lk) hcl rfl rfl rfl rfl (by kernel_rfl) (fun _ _ h => CS.step (by decide) h) (fun done ρ W hat => ?_)
        have e28 : ρ (.tmp 28) = .slice (some ⟨bl, ol, none⟩) lanes.length cl := fIs_at (d := 28) (v := .slice (some ⟨bl, ol, none⟩) lanes.length cl) (hat.fact 14 (by kernel_rfl))
        have e29 : ρ (.tmp 29) = .int .i64 (pre.length : Int) := fIs_at (d := 29) (v := .int .i64 (pre.length : Int)) (hat.fact 15 (by kernel_rfl))
        have hC := hat.cls
        have hc := hat.con
        simp only [execOp, e28, e29]
        go_simp
      · simp at ho; subst ho
        refine fo_det (st_putL D w.heap.size (w.heap.size + 1) (w.heap.size + 1 + 1) x pre.length bd od bl ol data.length lanes.length cd cl v dk lk) hcl rfl rfl rfl rfl (by kernel_rfl) (fun _ _ h => CS.step (by decide) h) (fun done ρ W hat => ?_)
        have e30 : ρ (.tmp 30) = .pointer (some ⟨bl, ol + pre.length, none⟩) := fIs_at (d := 30) (v := .pointer (some ⟨bl, ol + pre.length, none⟩)) (hat.fact 16 (by kernel_rfl))
        have hC := hat.cls
        have cL := (hC.1.cell (p := ⟨bl, ol + pre.length, none⟩) hll hln).trans hlc
        have hc := hat.con
        simp only [execOp, e30]
        go_simp
      · simp at ho; subst ho
        refine fo_grow (st_putL D w.heap.size (w.heap.size + 1) (w.heap.size + 1 + 1) x pre.length bd od bl ol data.length lanes.length cd cl v dk lk) hcl rfl rfl (fun done ρ W hat => ?_)
        have e21 : ρ (.tmp 21) = .int .i64 v := fIs_at (d := 21) (v := .int .i64 v) (hat.fact 7 (by kernel_rfl))
        have e26 : ρ (.tmp 26) = .int .i64 dk := fIs_at (d := 26) (v := .int .i64 dk) (hat.fact 12 (by kernel_rfl))
        have e31 : ρ (.tmp 31) = .int .i64 lk := fIs_at (d := 31) (v := .int .i64 lk) (hat.fact 17 (by kernel_rfl))
        have hC := hat.cls
        have hf := hat.fn
        have hc := hat.con
        refine up_call 121 #[.int .i64 v, .int .i64 dk, .int .i64 lk] (by simp only [execOp]; go_simp) ?_
        refine (gr_same (impl_WrdPut v dk lk W)).mono ?_
        rintro e W1 ⟨rfl, hb⟩
        exact ⟨_, rfl, CS.grow (by decide) hC hb, hb, fIs_mk (updV_same _ _ _), free_spec (by kernel_rfl) hat.lt⟩
      · simp at ho; subst ho
        refine fo_det (st_putL D w.heap.size (w.heap.size + 1) (w.heap.size + 1 + 1) x pre.length bd od bl ol data.length lanes.length cd cl v dk lk) hcl rfl rfl rfl rfl (by kernel_rfl) (fun _ _ h => CS.step (by decide) h) (fun done ρ W hat => ?_)
        have e14 : ρ (.tmp 14) = .pointer (some ⟨D, 0, none⟩) := fIs_at (d := 14) (v := .pointer (some ⟨D, 0, none⟩)) (hat.fact 0 (by kernel_rfl))
        have hC := hat.cls
        have hc := hat.con
        simp only [execOp, e14]
        go_simp
      · simp at ho; subst ho
        refine fo_det (st_putL D w.heap.size (w.heap.size + 1) (w.heap.size + 1 + 1) x pre.length bd od bl ol data.length lanes.length cd cl v dk lk) hcl rfl rfl rfl rfl (by kernel_rfl) (fun _ _ h => CS.step (by decide) h) (fun done ρ W hat => ?_)
        have e33 : ρ (.tmp 33) = .pointer (some ⟨D, 0, none⟩) := fIs_at (d := 33) (v := .pointer (some ⟨D, 0, none⟩)) (hat.fact 19 (by kernel_rfl))
        have hC := hat.cls
        have hc := hat.con
        simp only [execOp, e33]
        go_simp
      · simp at ho; subst ho
        refine fo_det (st_putL D w.heap.size (w.heap.size + 1) (w.heap.size + 1 + 1) x pre.length bd od bl ol data.length lanes.length cd cl v dk lk) hcl rfl rfl rfl rfl (by kernel_rfl) (fun _ _ h => CS.step (by decide) h) (fun done ρ W hat => ?_)
        have e15 : ρ (.tmp 15) = .int .i64 (x : Int) := fIs_at (d := 15) (v := .int .i64 (x : Int)) (hat.fact 1 (by kernel_rfl))
        have e34 : ρ (.tmp 34) = .pointer (some ⟨D, 0, none⟩) := fIs_at (d := 34) (v := .pointer (some ⟨D, 0, none⟩)) (hat.fact 20 (by kernel_rfl))
        have hC := hat.cls
        have hc := hat.con
        simp only [execOp, e15, e34]
        go_simp
      · simp at ho; subst ho
        refine fo_rel (S := fun _ _ => True) (E := []) (fun jj _ ss dd wa wb _ hbd => still_putL D w.heap.size (w.heap.size + 1) (w.heap.size + 1 + 1) x pre.length bd od bl ol data.length lanes.length cd cl v dk lk jj ss dd wa wb hbd) hcl rfl rfl (fun done ρ W hat => ?_)
        have e32 : ρ (.tmp 32) = .int .i64 (wrdPutZ v dk lk) := fIs_at (d := 32) (v := .int .i64 (wrdPutZ v dk lk)) (hat.fact 18 (by kernel_rfl))
        have e35 : ρ (.tmp 35) = .pointer (some ⟨D, x, none⟩) := fIs_at (d := 35) (v := .pointer (some ⟨D, x, none⟩)) (hat.fact 21 (by kernel_rfl))
        have hC := hat.cls
        have cW := hC.word hat.new hcv
        have fW := hC.free x
        refine up_skip (W.setCell ⟨D, x, none⟩ (.int .i64 (wrdPutZ v dk lk))) (by simp only [execOp]; go_simp) ⟨hC.store (hnew hat.new), trivial, trivial, fun j hj hcj => ?_⟩
        exact free_spec (X := fun _ => _) (by kernel_rfl) hat.lt j hj (by simpa using hcj)
      · simp at ho
    case c0 => exact ⟨Kept.drew _ _, hDk.box⟩
    case done =>
      intro f W hC hf hout
      have hbx : W.heap[D]? = some (.cells (deskC (putN ws (itL addr n wrap) data lanes (pre.length + 1)) H) 93 (0, 0)) := hC.2
      have hkW := hC.1
      have hD2 : Desk W D H ⟨putN ws (itL addr n wrap) data lanes (pre.length + 1), freeAll hs pre⟩ := ⟨hbx, hDk.map.of (hkW.block _ hDk.ltH (Ne.symm hne)), by rw [putN_len]; exact hw64, hDk.hl, hDk.hin⟩
      have hbd2 := (hkW.block _ hBl hBn).trans hbd
      have hbr2 := (hkW.block _ hRl hRn).trans hbr
      have hbk2 := (hkW.block _ hKl hKn).trans hbk
      have hBc2 : W.cell? ⟨w.heap.size, 0, none⟩ = some (.pointer (some ⟨D, 0, none⟩)) := heap_cell hbd2 0
      clear hf hout hC hbx
      simp only [fill]
      go_simp
      gi_wp2_with fail
      refine ⟨trivial, fun h => (by cases h), ?_⟩
      refine ((callsIn_wide.2 (free_any D H ⟨putN ws (itL addr n wrap) data lanes (pre.length + 1), freeAll hs pre⟩ (x : Int) W hD2 hx0)).inRound l').mono ?_
      rintro e W2 ⟨⟨v2, rfl⟩, hD3, hkH⟩
      have hbd3 := (hkH.block _ (heap_lt hbd2) (by omega)).trans hbd2
      have hbr3 := (hkH.block _ (heap_lt hbr2) (by omega)).trans hbr2
      have hbk3 := (hkH.block _ (heap_lt hbk2) (by omega)).trans hbk2
      have hKc3 : W2.cell? ⟨w.heap.size + 1 + 1, 0, none⟩ = some (.int .i64 (pre.length : Int)) := heap_cell hbk3 0
      have fK3 := heap_free hbk3 0
      have HK3 : Hid (Kept (fun k => k = D ∨ k = H) W0 W2) := Hid.intro ((hkW.mono (fun k e => Or.inl e)).trans (hkH.mono (fun k e => Or.inr e)))
      have HD3 := Hid.intro hD3
      have hKl3 := heap_lt hbk3
      clear hD3 hkH hkW hD2 hbd2 hbr2 hbk2 hBc2
      gi_wp2
      refine ⟨?_, ?_, (heap_set_ne (by omega)).trans hbd3, (heap_set_ne (by omega)).trans hbr3, ?_, ?_⟩
      · exact (HK3.out.mono (fun k e => by omega)).trans (Kept.setCell (D := fun k => k = D ∨ k = H ∨ k = w.heap.size + 1 + 1) (p := ⟨w.heap.size + 1 + 1, 0, none⟩) _ (.inr (.inr rfl)) _)
      · have := HD3.out.of (w' := W2.setCell ⟨w.heap.size + 1 + 1, 0, none⟩ (.int .i64 ((pre.length : Int) + 1))) (heap_set_ne (by omega)) (heap_set_ne (by omega))
        rw [free_snoc HPI.out hx0] at this
        rw [List.length_append]
        exact this
      · rw [(heap_set hbk3 0 _), List.length_append]; simp
      · have hkz := hkp.trans HK3.out
        exact ⟨hkz.os, hkz.tape, hkz.output, by have := hkz.size; simpa using this, fun k hk hne' => (heap_set_ne (by omega)).trans (hkz.block k hk hne')⟩
  case fin =>
    rintro B W' hB ⟨hDk, hbd, hbr, hbk, hkp⟩ hK
    have HDK := Hid.intro hDk
    have HKP := Hid.intro hkp
    clear hDk hkp
    gi_wp2
    refine ⟨by simp, .inl ⟨_, _, rfl, run_takeDeferred hK, ?_⟩⟩
    have hput : Below w.heap.size W' (W'.putObj B (.deferred none)) := below_putObj _ (by omega) _
    refine ⟨.tuple #[], by simp [results, Tryz.results120, go_sem], ⟨_, rfl⟩, ?_, ?_⟩
    · rw [← HIB.out]
      have := HDK.out.of (w' := W'.putObj B (.deferred none)) (hput.block _ hDl) (hput.block _ hHl)
      exact this
    · exact ⟨hput.os.trans HKP.out.os, hput.tape.trans HKP.out.tape, hput.output.trans HKP.out.output, Nat.le_trans HKP.out.size hput.size, fun k hk hne' => (hput.block k hk).trans (HKP.out.block k hk hne')⟩

end Go.Proofs.YtpamjkkghghggaaGreat

/-
  The program's visitor that does what it sees: read, write, hold, try.
-/
namespace Go.Proofs.YtpamjkkghghggaaGreat
open Go.RowKit
set_option linter.unusedSimpArgs false
set_option linter.unusedVariables false

/-- a turn: its desk, who asks by which name, whether the range can but be read, what came of it -/
def turnC (D : Nat) (who nm : Int) (only : Bool) (code : Int) (u : Value) : Array Value := #[.pointer (some ⟨D, 0, none⟩), .int .i64 who, .int .i64 nm, .bool only, .int .i64 code, u]

/-- a region that stores how it went (operation 10) and its words (operation 13) -/
structure CT (TB D : Nat) (who nm : Int) (only : Bool) (code : Int) (K : World → Value → Prop) (W0 : World) (d : Nat → Bool) (W : World) : Prop where
  kept : Kept (fun k => k = TB) W0 W
  box : ∃ u, W.heap[TB]? = some (.cells (turnC D who nm only (if d 10 then code else 0) u) 101 (0, 0)) ∧ (d 13 = true → K W u)
theorem CT.step {TB D : Nat} {who nm : Int} {only : Bool} {code : Int} {K : World → Value → Prop} {W0 W : World} {d : Nat → Bool} {i : Nat} (h10 : 10 ≠ i) (h13 : 13 ≠ i) (h : CT TB D who nm only code K W0 d W) : CT TB D who nm only code K W0 (updB d i) W :=
  ⟨h.kept, by rw [updB_ne d h10, updB_ne d h13]; exact h.box⟩
theorem CT.grow {TB D : Nat} {who nm : Int} {only : Bool} {code : Int} {K : World → Value → Prop} {W0 W W' : World} {d : Nat → Bool} {i : Nat} (hKg : ∀ w w' v, Gr w w' → K w v → K w' v) (h10 : 10 ≠ i) (h13 : 13 ≠ i) (h : CT TB D who nm only code K W0 d W) (hg : Gr W W') : CT TB D who nm only code K W0 (updB d i) W' := by
  refine ⟨h.kept.trans (Kept.of_below hg), ?_⟩
  rw [updB_ne d h10, updB_ne d h13]
  obtain ⟨u, h1, h2⟩ := h.box
  exact ⟨u, hg.cells h1, fun hd => hKg _ _ _ hg (h2 hd)⟩
theorem CT.c0 {TB D : Nat} {who nm : Int} {only : Bool} {code : Int} {K : World → Value → Prop} {W0 W : World} {d : Nat → Bool} (h : CT TB D who nm only code K W0 d W) : W.cell? ⟨TB, 0, none⟩ = some (.pointer (some ⟨D, 0, none⟩)) := by
  obtain ⟨u, h1, _⟩ := h.box
  exact heap_cell h1 0
theorem CT.code {TB D : Nat} {who nm : Int} {only : Bool} {code : Int} {K : World → Value → Prop} {W0 W : World} {d : Nat → Bool} (hKk : ∀ w w' v, Kept (fun k => k = TB) w w' → K w v → K w' v) (h : CT TB D who nm only code K W0 d W) : CT TB D who nm only code K W0 (updB d 10) (W.setCell ⟨TB, 4, none⟩ (.int .i64 code)) := by
  have hk : Kept (fun k => k = TB) W (W.setCell ⟨TB, 4, none⟩ (.int .i64 code)) := Kept.setCell (D := fun k => k = TB) (p := ⟨TB, 4, none⟩) _ rfl _
  refine ⟨h.kept.trans hk, ?_⟩
  rw [updB_self, updB_ne d (by decide : (13 : Nat) ≠ 10)]
  obtain ⟨u, h1, h2⟩ := h.box
  exact ⟨u, (heap_set h1 4 _).trans rfl, fun hd => hKk _ _ _ hk (h2 hd)⟩
theorem CT.data {TB D : Nat} {who nm : Int} {only : Bool} {code : Int} {K : World → Value → Prop} {W0 W : World} {d : Nat → Bool} {v : Value} (hKk : ∀ w w' v, Kept (fun k => k = TB) w w' → K w v → K w' v) (h : CT TB D who nm only code K W0 d W) (hv : K W v) : CT TB D who nm only code K W0 (updB d 13) (W.setCell ⟨TB, 5, none⟩ v) := by
  have hk : Kept (fun k => k = TB) W (W.setCell ⟨TB, 5, none⟩ v) := Kept.setCell (D := fun k => k = TB) (p := ⟨TB, 5, none⟩) _ rfl _
  refine ⟨h.kept.trans hk, ?_⟩
  rw [updB_self, updB_ne d (by decide : (10 : Nat) ≠ 13)]
  obtain ⟨u, h1, h2⟩ := h.box
  exact ⟨v, (heap_set h1 5 _).trans rfl, fun _ => hKk _ _ _ hk hv⟩

def fl_readL (TB D B : Nat) (id kind addr many : Int) (wrap : Bool) (pd pl : Option Addr) (ld ll cd cl : Nat) (K : World → Value → Prop) : List Fact := [
  fIs 4 (.pointer (some ⟨TB, 0, none⟩)),
  fIs 5 (.pointer (some ⟨TB, 0, none⟩)),
  fIs 6 (.pointer (some ⟨TB, 0, none⟩)),
  fIs 7 (.pointer (some ⟨TB, 0, none⟩)),
  fIs 8 (.pointer (some ⟨TB, 0, none⟩)),
  fIs 9 (.pointer (some ⟨D, 0, none⟩)),
  fIs 10 (.agg #[.int .i64 id, .int .i64 kind, .int .i64 addr, .int .i64 many, .bool wrap, .slice pd ld cd, .slice pl ll cl]),
  fK 11 K,
  fIs 12 (.pointer (some ⟨TB, 0, none⟩)),
  fIs 13 (.pointer (some ⟨TB, 4, none⟩)),
  ⟨[], [], fun _ _ _ => True⟩,
  fIs 14 (.pointer (some ⟨TB, 0, none⟩)),
  fIs 15 (.pointer (some ⟨TB, 5, none⟩)),
  ⟨[], [], fun _ _ _ => True⟩]

theorem st_readL (TB D B : Nat) (id kind addr many : Int) (wrap : Bool) (pd pl : Option Addr) (ld ll cd cl : Nat) (K : World → Value → Prop) (hKg : ∀ w w' v, Gr w w' → K w v → K w' v) : ∀ F ∈ fl_readL TB D B id kind addr many wrap pd pl ld ll cd cl K, F.Stab :=
  stab_cons (fIs_stab _ _) <|
  stab_cons (fIs_stab _ _) <|
  stab_cons (fIs_stab _ _) <|
  stab_cons (fIs_stab _ _) <|
  stab_cons (fIs_stab _ _) <|
  stab_cons (fIs_stab _ _) <|
  stab_cons (fIs_stab _ _) <|
  stab_cons (fK_stab hKg) <|
  stab_cons (fIs_stab _ _) <|
  stab_cons (fIs_stab _ _) <|
  stab_cons (fun _ _ _ _ _ h => h) <|
  stab_cons (fIs_stab _ _) <|
  stab_cons (fIs_stab _ _) <|
  stab_cons (fun _ _ _ _ _ h => h) stab_nil

theorem kept_readL (TB D B : Nat) (id kind addr many : Int) (wrap : Bool) (pd pl : Option Addr) (ld ll cd cl : Nat) (K : World → Value → Prop) (hKk : ∀ w w' v, Kept (fun k => k = TB) w w' → K w v → K w' v) : ∀ j, ([] : List Nat).contains j = false → ∀ s d w w', Kept (fun k => k = TB) w w' → (factsOf (fl_readL TB D B id kind addr many wrap pd pl ld ll cd cl K) j).body s d w → (factsOf (fl_readL TB D B id kind addr many wrap pd pl ld ll cd cl K) j).body s d w' := by
  intro j _ s d w w' hk hb
  rcases j with _ | _ | _ | _ | _ | _ | _ | _ | _ | _ | _ | _ | _ | _ | j
  case succ.succ.succ.succ.succ.succ.succ.zero => exact hKk _ _ _ hk hb
  all_goals exact hb

def fl_holdL (TB D B : Nat) (id kind addr many : Int) (wrap : Bool) (pd pl : Option Addr) (ld ll cd cl : Nat) (K : World → Value → Prop) : List Fact := [
  fIs 4 (.pointer (some ⟨TB, 0, none⟩)),
  fIs 5 (.pointer (some ⟨TB, 0, none⟩)),
  fIs 6 (.pointer (some ⟨TB, 0, none⟩)),
  fIs 7 (.pointer (some ⟨TB, 0, none⟩)),
  fIs 8 (.pointer (some ⟨TB, 0, none⟩)),
  fIs 9 (.pointer (some ⟨D, 0, none⟩)),
  fIs 10 (.agg #[.int .i64 id, .int .i64 kind, .int .i64 addr, .int .i64 many, .bool wrap, .slice pd ld cd, .slice pl ll cl]),
  fK 11 K,
  fIs 12 (.pointer (some ⟨TB, 0, none⟩)),
  fIs 13 (.pointer (some ⟨TB, 4, none⟩)),
  ⟨[], [], fun _ _ _ => True⟩,
  fIs 14 (.pointer (some ⟨TB, 0, none⟩)),
  fIs 15 (.pointer (some ⟨TB, 5, none⟩)),
  ⟨[], [], fun _ _ _ => True⟩]

theorem st_holdL (TB D B : Nat) (id kind addr many : Int) (wrap : Bool) (pd pl : Option Addr) (ld ll cd cl : Nat) (K : World → Value → Prop) (hKg : ∀ w w' v, Gr w w' → K w v → K w' v) : ∀ F ∈ fl_holdL TB D B id kind addr many wrap pd pl ld ll cd cl K, F.Stab :=
  stab_cons (fIs_stab _ _) <|
  stab_cons (fIs_stab _ _) <|
  stab_cons (fIs_stab _ _) <|
  stab_cons (fIs_stab _ _) <|
  stab_cons (fIs_stab _ _) <|
  stab_cons (fIs_stab _ _) <|
  stab_cons (fIs_stab _ _) <|
  stab_cons (fK_stab hKg) <|
  stab_cons (fIs_stab _ _) <|
  stab_cons (fIs_stab _ _) <|
  stab_cons (fun _ _ _ _ _ h => h) <|
  stab_cons (fIs_stab _ _) <|
  stab_cons (fIs_stab _ _) <|
  stab_cons (fun _ _ _ _ _ h => h) stab_nil

theorem kept_holdL (TB D B : Nat) (id kind addr many : Int) (wrap : Bool) (pd pl : Option Addr) (ld ll cd cl : Nat) (K : World → Value → Prop) (hKk : ∀ w w' v, Kept (fun k => k = TB) w w' → K w v → K w' v) : ∀ j, ([] : List Nat).contains j = false → ∀ s d w w', Kept (fun k => k = TB) w w' → (factsOf (fl_holdL TB D B id kind addr many wrap pd pl ld ll cd cl K) j).body s d w → (factsOf (fl_holdL TB D B id kind addr many wrap pd pl ld ll cd cl K) j).body s d w' := by
  intro j _ s d w w' hk hb
  rcases j with _ | _ | _ | _ | _ | _ | _ | _ | _ | _ | _ | _ | _ | _ | j
  case succ.succ.succ.succ.succ.succ.succ.zero => exact hKk _ _ _ hk hb
  all_goals exact hb

def fl_holdM (TB D H B : Nat) (who id addr : Int) : List Fact := [
  fIs 16 (.pointer (some ⟨TB, 0, none⟩)),
  fIs 17 (.pointer (some ⟨TB, 0, none⟩)),
  fIs 18 (.pointer (some ⟨TB, 0, none⟩)),
  fIs 19 (.pointer (some ⟨D, 0, none⟩)),
  fIs 20 (.pointer (some ⟨D, 0, none⟩)),
  fIs 21 (.pointer (some ⟨D, 64, none⟩)),
  fIs 22 (.map (some H)),
  fIs 23 (.pointer (some ⟨TB, 0, none⟩)),
  fIs 24 (.pointer (some ⟨TB, 0, none⟩)),
  fIs 25 (.pointer (some ⟨TB, 1, none⟩)),
  fIs 26 (.agg #[.int .i64 who, .int .i64 id]),
  fIs 27 (.pointer (some ⟨B, 2, none⟩)),
  fIs 28 (.int .i64 addr),
  ⟨[], [], fun _ _ _ => True⟩]

theorem st_holdM (TB D H B : Nat) (who id addr : Int) : ∀ F ∈ fl_holdM TB D H B who id addr, F.Stab :=
  stab_cons (fIs_stab _ _) <|
  stab_cons (fIs_stab _ _) <|
  stab_cons (fIs_stab _ _) <|
  stab_cons (fIs_stab _ _) <|
  stab_cons (fIs_stab _ _) <|
  stab_cons (fIs_stab _ _) <|
  stab_cons (fIs_stab _ _) <|
  stab_cons (fIs_stab _ _) <|
  stab_cons (fIs_stab _ _) <|
  stab_cons (fIs_stab _ _) <|
  stab_cons (fIs_stab _ _) <|
  stab_cons (fIs_stab _ _) <|
  stab_cons (fIs_stab _ _) <|
  stab_cons (fun _ _ _ _ _ h => h) stab_nil

theorem still_holdM (TB D H B : Nat) (who id addr : Int) : ∀ j s d w w', (factsOf (fl_holdM TB D H B who id addr) j).body s d w → (factsOf (fl_holdM TB D H B who id addr) j).body s d w' := by
  intro j s d w w' hb
  rcases j with _ | _ | _ | _ | _ | _ | _ | _ | _ | _ | _ | _ | _ | _ | j
  all_goals exact hb

set_option maxRecDepth 100000 in
set_option maxHeartbeats 1000000 in
theorem turn_read (D H TB : Nat) (s : Stt) (who nm : Int) (only : Bool) (r : Req) (pd pl : Option Addr) (cd cl : Nat) (w : World) (h : Desk w D H s) (hT : w.heap[TB]? = some (.cells (turnC D who nm only 0 (.slice none 0 0)) 101 (0, 0))) (hTD : TB ≠ D) (hTH : TB ≠ H) (hok : adrOkB r.addr r.many r.wrap = true) :
    Calls Tryz.prog 116 #[.pointer (some ⟨TB, 0, none⟩), reqV r pd cd pl cl] w fun e w' => (∃ v, e = .returned v) ∧ (∃ g c, w'.heap[TB]? = some (.cells (turnC D who nm only 1 (.slice (some ⟨g, 0, none⟩) (getAll s.words (burst r.addr r.many r.wrap)).length c)) 101 (0, 0)) ∧ ORow 3 1 w' g c (getAll s.words (burst r.addr r.many r.wrap)).length ((getAll s.words (burst r.addr r.many r.wrap)).map (Value.int .i64)) ∧ (getAll s.words (burst r.addr r.many r.wrap)).length ≤ c ∧ c ≤ 9223372036854775807 ∧ w.heap.size ≤ g) ∧ Desk w' D H s ∧ Kept (fun k => k = TB) w w' := by
  obtain ⟨id, kind, addr, many, wrap, data, lanes⟩ := r
  simp only at hok
  have hTl := heap_lt hT
  have hDl := h.ltD
  have hHl := h.ltH
  have hne := h.ne
  have HD := Hid.intro h
  obtain ⟨K, hK⟩ : ∃ K : World → Value → Prop, K = fun W v => ∃ g c, v = .slice (some ⟨g, 0, none⟩) (getAll s.words (burst addr many wrap)).length c ∧ ORow 3 1 W g c (getAll s.words (burst addr many wrap)).length ((getAll s.words (burst addr many wrap)).map (Value.int .i64)) ∧ (getAll s.words (burst addr many wrap)).length ≤ c ∧ c ≤ 9223372036854775807 ∧ w.heap.size ≤ g := ⟨_, rfl⟩
  have hKg : ∀ w w' v, Gr w w' → K w v → K w' v := by
    rw [hK]; rintro w w' v hg ⟨g, c, h1, h2, h3⟩; exact ⟨g, c, h1, h2.gr hg, h3⟩
  have hKk : ∀ w w' v, Kept (fun k => k = TB) w w' → K w v → K w' v := by
    rw [hK]; rintro w2 w' v hk ⟨g, c, h1, h2, h3, h4, h5⟩; exact ⟨g, c, h1, h2.of (hk.block g h2.lt (by omega)), h3, h4, h5⟩
  have hK1 : ∀ W v, K W v → ∃ g c, v = .slice (some ⟨g, 0, none⟩) (getAll s.words (burst addr many wrap)).length c := by
    rw [hK]; rintro W v ⟨g, c, h1, _⟩; exact ⟨g, c, h1⟩
  have HWO : Hid (∀ W, w.heap.size ≤ W.heap.size ∧ Desk W D H s → Calls Tryz.prog 112 #[.pointer (some ⟨D, 0, none⟩), .agg #[.int .i64 id, .int .i64 kind, .int .i64 addr, .int .i64 many, .bool wrap, .slice pd data.length cd, .slice pl lanes.length cl]] W fun e w' => (∃ v, e = .returned v ∧ K w' v) ∧ Below W.heap.size W w') := by
    refine Hid.intro (fun W hW => ?_)
    have := wordsOf_any D H s ⟨id, kind, addr, many, wrap, data, lanes⟩ pd pl cd cl W hW.2 hok
    unfold reqV at this
    refine this.mono ?_
    rintro e w' ⟨g, c, rfl, hO, h1, h2, h3, hb⟩
    exact ⟨⟨_, rfl, by rw [hK]; exact ⟨g, c, rfl, hO, h1, h2, by have := hW.1; omega⟩⟩, hb⟩
  unfold reqV
  simp only
  go_enter Tryz.func116, Tryz.ntmps116
  go_wp2_with fail
  obtain ⟨W0, hW0⟩ : ∃ W0, w.alloc (.cells #[.int .i64 id, .int .i64 kind, .int .i64 addr, .int .i64 many, .bool wrap, .slice pd data.length cd, .slice pl lanes.length cl] 121) = W0 := ⟨_, rfl⟩
  have hg0 : Gr w W0 := by rw [← hW0]; exact below_nw _ _
  have hB0 : W0.heap[w.heap.size]? = some (.cells #[.int .i64 id, .int .i64 kind, .int .i64 addr, .int .i64 many, .bool wrap, .slice pd data.length cd, .slice pl lanes.length cl] 121 (0, 0)) := by rw [← hW0]; exact nw_at _ rfl
  rw [hW0]
  clear hW0
  have hT0 := hg0.cells hT
  have hD0 := HD.out.gr hg0
  have hBl := heap_lt hB0
  have hBn : ¬ (w.heap.size = TB) := by omega
  have hs0 := hg0.size
  have hDW : ∀ W, Kept (fun k => k = TB) W0 W → w.heap.size ≤ W.heap.size ∧ Desk W D H s := fun W hk => ⟨Nat.le_trans hs0 hk.size, hD0.of (hk.block _ hD0.ltD (Ne.symm hTD)) (hk.block _ hD0.ltH (Ne.symm hTH))⟩
  refine wp_region_fl (by kernel_rfl) (fl_readL TB D w.heap.size id kind addr many wrap pd pl data.length lanes.length cd cl K) (CT TB D who nm only 1 K W0) [4, 5, 6, 7, 8, 9, 10, 11, 12, 13, 14, 15] (by kernel_rfl) (by kernel_rfl) (by kernel_rfl) ?c0 ?looks ?done
  case looks =>
    intro hcl i o ho
    rcases i with _ | _ | _ | _ | _ | _ | _ | _ | _ | _ | _ | _ | _ | _ | i
    · simp at ho; subst ho
      refine fo_det (st_readL TB D w.heap.size id kind addr many wrap pd pl data.length lanes.length cd cl K hKg) hcl rfl rfl rfl rfl (by kernel_rfl) (fun _ _ h => CT.step (by decide) (by decide) h) (fun done ρ W hat => ?_)
      have e0 : ρ (.tmp 0) = .pointer (some ⟨TB, 0, none⟩) := hat.out 0 (by kernel_rfl)
      have hC := hat.cls
      have hc := hat.con
      simp only [execOp, e0]
      go_simp
    · simp at ho; subst ho
      refine fo_det (st_readL TB D w.heap.size id kind addr many wrap pd pl data.length lanes.length cd cl K hKg) hcl rfl rfl rfl rfl (by kernel_rfl) (fun _ _ h => CT.step (by decide) (by decide) h) (fun done ρ W hat => ?_)
      have e0 : ρ (.tmp 0) = .pointer (some ⟨TB, 0, none⟩) := hat.out 0 (by kernel_rfl)
      have hC := hat.cls
      have hc := hat.con
      simp only [execOp, e0]
      go_simp
    · simp at ho; subst ho
      refine fo_det (st_readL TB D w.heap.size id kind addr many wrap pd pl data.length lanes.length cd cl K hKg) hcl rfl rfl rfl rfl (by kernel_rfl) (fun _ _ h => CT.step (by decide) (by decide) h) (fun done ρ W hat => ?_)
      have e0 : ρ (.tmp 0) = .pointer (some ⟨TB, 0, none⟩) := hat.out 0 (by kernel_rfl)
      have hC := hat.cls
      have hc := hat.con
      simp only [execOp, e0]
      go_simp
    · simp at ho; subst ho
      refine fo_det (st_readL TB D w.heap.size id kind addr many wrap pd pl data.length lanes.length cd cl K hKg) hcl rfl rfl rfl rfl (by kernel_rfl) (fun _ _ h => CT.step (by decide) (by decide) h) (fun done ρ W hat => ?_)
      have e6 : ρ (.tmp 6) = .pointer (some ⟨TB, 0, none⟩) := fIs_at (d := 6) (v := .pointer (some ⟨TB, 0, none⟩)) (hat.fact 2 (by kernel_rfl))
      have hC := hat.cls
      have hc := hat.con
      simp only [execOp, e6]
      go_simp
    · simp at ho; subst ho
      refine fo_det (st_readL TB D w.heap.size id kind addr many wrap pd pl data.length lanes.length cd cl K hKg) hcl rfl rfl rfl rfl (by kernel_rfl) (fun _ _ h => CT.step (by decide) (by decide) h) (fun done ρ W hat => ?_)
      have e7 : ρ (.tmp 7) = .pointer (some ⟨TB, 0, none⟩) := fIs_at (d := 7) (v := .pointer (some ⟨TB, 0, none⟩)) (hat.fact 3 (by kernel_rfl))
      have hC := hat.cls
      have hc := hat.con
      simp only [execOp, e7]
      go_simp
    · simp at ho; subst ho
      refine fo_det (st_readL TB D w.heap.size id kind addr many wrap pd pl data.length lanes.length cd cl K hKg) hcl rfl rfl rfl rfl (by kernel_rfl) (fun _ _ h => CT.step (by decide) (by decide) h) (fun done ρ W hat => ?_)
      have e8 : ρ (.tmp 8) = .pointer (some ⟨TB, 0, none⟩) := fIs_at (d := 8) (v := .pointer (some ⟨TB, 0, none⟩)) (hat.fact 4 (by kernel_rfl))
      have hC := hat.cls
      have cT := hC.c0
      have hc := hat.con
      simp only [execOp, e8]
      go_simp
    · simp at ho; subst ho
      refine fo_det (st_readL TB D w.heap.size id kind addr many wrap pd pl data.length lanes.length cd cl K hKg) hcl rfl rfl rfl rfl (by kernel_rfl) (fun _ _ h => CT.step (by decide) (by decide) h) (fun done ρ W hat => ?_)
      have e3 : ρ (.tmp 3) = .pointer (some ⟨w.heap.size, 0, none⟩) := hat.out 3 (by kernel_rfl)
      have hC := hat.cls
      have hq := (hC.kept.block w.heap.size hBl hBn).trans hB0
      have q0 : W.cell? ⟨w.heap.size, 0, none⟩ = some (.int .i64 id) := heap_cell hq 0
      have q1 : W.cell? ⟨w.heap.size, 1, none⟩ = some (.int .i64 kind) := heap_cell hq 1
      have q2 : W.cell? ⟨w.heap.size, 2, none⟩ = some (.int .i64 addr) := heap_cell hq 2
      have q3 : W.cell? ⟨w.heap.size, 3, none⟩ = some (.int .i64 many) := heap_cell hq 3
      have q4 : W.cell? ⟨w.heap.size, 4, none⟩ = some (.bool wrap) := heap_cell hq 4
      have q5 : W.cell? ⟨w.heap.size, 5, none⟩ = some (.slice pd data.length cd) := heap_cell hq 5
      have q6 : W.cell? ⟨w.heap.size, 6, none⟩ = some (.slice pl lanes.length cl) := heap_cell hq 6
      have hc := hat.con
      simp only [execOp, e3]
      go_simp
    · simp at ho; subst ho
      refine fo_grow (st_readL TB D w.heap.size id kind addr many wrap pd pl data.length lanes.length cd cl K hKg) hcl rfl rfl (fun done ρ W hat => ?_)
      have e9 : ρ (.tmp 9) = .pointer (some ⟨D, 0, none⟩) := fIs_at (d := 9) (v := .pointer (some ⟨D, 0, none⟩)) (hat.fact 5 (by kernel_rfl))
      have e10 : ρ (.tmp 10) = .agg #[.int .i64 id, .int .i64 kind, .int .i64 addr, .int .i64 many, .bool wrap, .slice pd data.length cd, .slice pl lanes.length cl] := fIs_at (d := 10) (v := .agg #[.int .i64 id, .int .i64 kind, .int .i64 addr, .int .i64 many, .bool wrap, .slice pd data.length cd, .slice pl lanes.length cl]) (hat.fact 6 (by kernel_rfl))
      have hC := hat.cls
      have hf := hat.fn
      refine up_call 112 #[.pointer (some ⟨D, 0, none⟩), .agg #[.int .i64 id, .int .i64 kind, .int .i64 addr, .int .i64 many, .bool wrap, .slice pd data.length cd, .slice pl lanes.length cl]] (by simp only [execOp]; go_simp) ?_
      refine (HWO.out W (hDW W hC.kept)).mono ?_
      rintro e W1 ⟨hKv, hb⟩
      obtain ⟨v, rfl, hKv⟩ := hKv
      exact ⟨v, rfl, CT.grow hKg (by decide) (by decide) hC hb, hb, fK_mk (by rw [updV_same]; exact hKv), free_spec (by kernel_rfl) hat.lt⟩
    · simp at ho; subst ho
      refine fo_det (st_readL TB D w.heap.size id kind addr many wrap pd pl data.length lanes.length cd cl K hKg) hcl rfl rfl rfl rfl (by kernel_rfl) (fun _ _ h => CT.step (by decide) (by decide) h) (fun done ρ W hat => ?_)
      have e4 : ρ (.tmp 4) = .pointer (some ⟨TB, 0, none⟩) := fIs_at (d := 4) (v := .pointer (some ⟨TB, 0, none⟩)) (hat.fact 0 (by kernel_rfl))
      have hC := hat.cls
      have hc := hat.con
      simp only [execOp, e4]
      go_simp
    · simp at ho; subst ho
      refine fo_det (st_readL TB D w.heap.size id kind addr many wrap pd pl data.length lanes.length cd cl K hKg) hcl rfl rfl rfl rfl (by kernel_rfl) (fun _ _ h => CT.step (by decide) (by decide) h) (fun done ρ W hat => ?_)
      have e12 : ρ (.tmp 12) = .pointer (some ⟨TB, 0, none⟩) := fIs_at (d := 12) (v := .pointer (some ⟨TB, 0, none⟩)) (hat.fact 8 (by kernel_rfl))
      have hC := hat.cls
      have hc := hat.con
      simp only [execOp, e12]
      go_simp
    · simp at ho; subst ho
      refine fo_rel (S := Kept (fun k => k = TB)) (E := []) (kept_readL TB D w.heap.size id kind addr many wrap pd pl data.length lanes.length cd cl K hKk) hcl rfl rfl (fun done ρ W hat => ?_)
      have e13 : ρ (.tmp 13) = .pointer (some ⟨TB, 4, none⟩) := fIs_at (d := 13) (v := .pointer (some ⟨TB, 4, none⟩)) (hat.fact 9 (by kernel_rfl))
      have hC := hat.cls
      obtain ⟨u, hbx, hu⟩ := hC.box
      have c4 : W.cell? ⟨TB, 4, none⟩ = some (.int .i64 (if done 10 then 1 else 0)) := heap_cell hbx 4
      have f4 := heap_free hbx 4
      have hc := hat.con
      refine up_skip (W.setCell ⟨TB, 4, none⟩ (.int .i64 1)) (by simp only [execOp]; go_simp) ⟨hC.code hKk, Kept.setCell (D := fun k => k = TB) (p := ⟨TB, 4, none⟩) _ rfl _, trivial, fun j hj hcj => ?_⟩
      exact free_spec (X := fun _ => _) (by kernel_rfl) hat.lt j hj (by simpa using hcj)
    · simp at ho; subst ho
      refine fo_det (st_readL TB D w.heap.size id kind addr many wrap pd pl data.length lanes.length cd cl K hKg) hcl rfl rfl rfl rfl (by kernel_rfl) (fun _ _ h => CT.step (by decide) (by decide) h) (fun done ρ W hat => ?_)
      have e5 : ρ (.tmp 5) = .pointer (some ⟨TB, 0, none⟩) := fIs_at (d := 5) (v := .pointer (some ⟨TB, 0, none⟩)) (hat.fact 1 (by kernel_rfl))
      have hC := hat.cls
      have hc := hat.con
      simp only [execOp, e5]
      go_simp
    · simp at ho; subst ho
      refine fo_det (st_readL TB D w.heap.size id kind addr many wrap pd pl data.length lanes.length cd cl K hKg) hcl rfl rfl rfl rfl (by kernel_rfl) (fun _ _ h => CT.step (by decide) (by decide) h) (fun done ρ W hat => ?_)
      have e14 : ρ (.tmp 14) = .pointer (some ⟨TB, 0, none⟩) := fIs_at (d := 14) (v := .pointer (some ⟨TB, 0, none⟩)) (hat.fact 11 (by kernel_rfl))
      have hC := hat.cls
      have hc := hat.con
      simp only [execOp, e14]
      go_simp
    · simp at ho; subst ho
      refine fo_rel (S := Kept (fun k => k = TB)) (E := []) (kept_readL TB D w.heap.size id kind addr many wrap pd pl data.length lanes.length cd cl K hKk) hcl rfl rfl (fun done ρ W hat => ?_)
      have e15 : ρ (.tmp 15) = .pointer (some ⟨TB, 5, none⟩) := fIs_at (d := 15) (v := .pointer (some ⟨TB, 5, none⟩)) (hat.fact 12 (by kernel_rfl))
      have hC := hat.cls
      obtain ⟨u, hbx, hu⟩ := hC.box
      have hKv : K W (ρ (.tmp 11)) := fK_at (d := 11) (K := K) (hat.fact 7 (by kernel_rfl))
      have c5 : W.cell? ⟨TB, 5, none⟩ = some u := heap_cell hbx 5
      have f5 := heap_free hbx 5
      have h1c := hK1 _ _ hKv
      refine up_skip (W.setCell ⟨TB, 5, none⟩ (ρ (.tmp 11))) (by obtain ⟨g1, c1, e1⟩ := h1c; rw [e1]; simp only [execOp, e1]; go_simp) ⟨hC.data hKk hKv, Kept.setCell (D := fun k => k = TB) (p := ⟨TB, 5, none⟩) _ rfl _, trivial, fun j hj hcj => ?_⟩
      exact free_spec (X := fun _ => _) (by kernel_rfl) hat.lt j hj (by simpa using hcj)
    · simp at ho
  case c0 => exact ⟨Kept.drew _ _, _, hT0, fun h => by cases h⟩
  case done =>
    intro f W hC hf hout
    obtain ⟨u, hbx, hu⟩ := hC.box
    have hku := hu rfl
    rw [hK] at hku
    obtain ⟨g, c, rfl, hO, h1, h2, h3⟩ := hku
    have hbx' : W.heap[TB]? = some (.cells (turnC D who nm only 1 (.slice (some ⟨g, 0, none⟩) (getAll s.words (burst addr many wrap)).length c)) 101 (0, 0)) := hbx
    have HP := Hid.intro (And.intro hbx' (And.intro hO (And.intro (hDW W hC.kept).2 ((Kept.of_below hg0).trans hC.kept))))
    clear hf hout hC hbx hbx' hO hu
    simp only [fill]
    go_simp
    go_wp2
    go_end0
    exact ⟨⟨_, rfl⟩, ⟨g, c, HP.out.1, HP.out.2.1, h1, h2, h3⟩, HP.out.2.2.1, HP.out.2.2.2⟩

set_option maxRecDepth 100000 in
set_option maxHeartbeats 1000000 in
theorem turn_hold (D H TB : Nat) (s : Stt) (who nm : Int) (only : Bool) (r : Req) (pd pl : Option Addr) (cd cl : Nat) (w : World) (h : Desk w D H s) (hT : w.heap[TB]? = some (.cells (turnC D who nm only 0 (.slice none 0 0)) 101 (0, 0))) (hTD : TB ≠ D) (hTH : TB ≠ H) (hok : adrOkB r.addr r.many r.wrap = true) (hwho : 0 ≤ who ∧ who ≤ 2) (hnm : nm = 0 ∨ nm = 1) :
    Calls Tryz.prog 107 #[.pointer (some ⟨TB, 0, none⟩), reqV r pd cd pl cl] w fun e w' => (∃ v, e = .returned v) ∧ (∃ g c, w'.heap[TB]? = some (.cells (turnC D who nm only 2 (.slice (some ⟨g, 0, none⟩) (getAll s.words (burst r.addr r.many r.wrap)).length c)) 101 (0, 0)) ∧ ORow 3 1 w' g c (getAll s.words (burst r.addr r.many r.wrap)).length ((getAll s.words (burst r.addr r.many r.wrap)).map (Value.int .i64)) ∧ (getAll s.words (burst r.addr r.many r.wrap)).length ≤ c ∧ c ≤ 9223372036854775807 ∧ w.heap.size ≤ g) ∧ Desk w' D H ⟨s.words, s.holds.set (atR who nm).toNat r.addr⟩ ∧ Kept (fun k => k = TB ∨ k = H) w w' := by
  obtain ⟨id, kind, addr, many, wrap, data, lanes⟩ := r
  simp only at hok
  have hTl := heap_lt hT
  have hDl := h.ltD
  have hHl := h.ltH
  have hne := h.ne
  have HD := Hid.intro h
  obtain ⟨K, hK⟩ : ∃ K : World → Value → Prop, K = fun W v => ∃ g c, v = .slice (some ⟨g, 0, none⟩) (getAll s.words (burst addr many wrap)).length c ∧ ORow 3 1 W g c (getAll s.words (burst addr many wrap)).length ((getAll s.words (burst addr many wrap)).map (Value.int .i64)) ∧ (getAll s.words (burst addr many wrap)).length ≤ c ∧ c ≤ 9223372036854775807 ∧ w.heap.size ≤ g := ⟨_, rfl⟩
  have hKg : ∀ w w' v, Gr w w' → K w v → K w' v := by
    rw [hK]; rintro w w' v hg ⟨g, c, h1, h2, h3⟩; exact ⟨g, c, h1, h2.gr hg, h3⟩
  have hKk : ∀ w w' v, Kept (fun k => k = TB) w w' → K w v → K w' v := by
    rw [hK]; rintro w2 w' v hk ⟨g, c, h1, h2, h3, h4, h5⟩; exact ⟨g, c, h1, h2.of (hk.block g h2.lt (by omega)), h3, h4, h5⟩
  have hK1 : ∀ W v, K W v → ∃ g c, v = .slice (some ⟨g, 0, none⟩) (getAll s.words (burst addr many wrap)).length c := by
    rw [hK]; rintro W v ⟨g, c, h1, _⟩; exact ⟨g, c, h1⟩
  have HWO : Hid (∀ W, w.heap.size ≤ W.heap.size ∧ Desk W D H s → Calls Tryz.prog 112 #[.pointer (some ⟨D, 0, none⟩), .agg #[.int .i64 id, .int .i64 kind, .int .i64 addr, .int .i64 many, .bool wrap, .slice pd data.length cd, .slice pl lanes.length cl]] W fun e w' => (∃ v, e = .returned v ∧ K w' v) ∧ Below W.heap.size W w') := by
    refine Hid.intro (fun W hW => ?_)
    have := wordsOf_any D H s ⟨id, kind, addr, many, wrap, data, lanes⟩ pd pl cd cl W hW.2 hok
    unfold reqV at this
    refine this.mono ?_
    rintro e w' ⟨g, c, rfl, hO, h1, h2, h3, hb⟩
    exact ⟨⟨_, rfl, by rw [hK]; exact ⟨g, c, rfl, hO, h1, h2, by have := hW.1; omega⟩⟩, hb⟩
  unfold reqV
  simp only
  go_enter Tryz.func107, Tryz.ntmps107
  go_wp2_with fail
  obtain ⟨W0, hW0⟩ : ∃ W0, w.alloc (.cells #[.int .i64 id, .int .i64 kind, .int .i64 addr, .int .i64 many, .bool wrap, .slice pd data.length cd, .slice pl lanes.length cl] 123) = W0 := ⟨_, rfl⟩
  have hg0 : Gr w W0 := by rw [← hW0]; exact below_nw _ _
  have hB0 : W0.heap[w.heap.size]? = some (.cells #[.int .i64 id, .int .i64 kind, .int .i64 addr, .int .i64 many, .bool wrap, .slice pd data.length cd, .slice pl lanes.length cl] 123 (0, 0)) := by rw [← hW0]; exact nw_at _ rfl
  rw [hW0]
  clear hW0
  have hT0 := hg0.cells hT
  have hD0 := HD.out.gr hg0
  have hBl := heap_lt hB0
  have hBn : ¬ (w.heap.size = TB) := by omega
  have hs0 := hg0.size
  have hDW : ∀ W, Kept (fun k => k = TB) W0 W → w.heap.size ≤ W.heap.size ∧ Desk W D H s := fun W hk => ⟨Nat.le_trans hs0 hk.size, hD0.of (hk.block _ hD0.ltD (Ne.symm hTD)) (hk.block _ hD0.ltH (Ne.symm hTH))⟩
  refine wp_region_fl (by kernel_rfl) (fl_holdL TB D w.heap.size id kind addr many wrap pd pl data.length lanes.length cd cl K) (CT TB D who nm only 2 K W0) [4, 5, 6, 7, 8, 9, 10, 11, 12, 13, 14, 15] (by kernel_rfl) (by kernel_rfl) (by kernel_rfl) ?c0 ?looks ?done
  case looks =>
    intro hcl i o ho
    rcases i with _ | _ | _ | _ | _ | _ | _ | _ | _ | _ | _ | _ | _ | _ | i
    · simp at ho; subst ho
      refine fo_det (st_holdL TB D w.heap.size id kind addr many wrap pd pl data.length lanes.length cd cl K hKg) hcl rfl rfl rfl rfl (by kernel_rfl) (fun _ _ h => CT.step (by decide) (by decide) h) (fun done ρ W hat => ?_)
      have e0 : ρ (.tmp 0) = .pointer (some ⟨TB, 0, none⟩) := hat.out 0 (by kernel_rfl)
      have hC := hat.cls
      have hc := hat.con
      simp only [execOp, e0]
      go_simp
    · simp at ho; subst ho
      refine fo_det (st_holdL TB D w.heap.size id kind addr many wrap pd pl data.length lanes.length cd cl K hKg) hcl rfl rfl rfl rfl (by kernel_rfl) (fun _ _ h => CT.step (by decide) (by decide) h) (fun done ρ W hat => ?_)
      have e0 : ρ (.tmp 0) = .pointer (some ⟨TB, 0, none⟩) := hat.out 0 (by kernel_rfl)
      have hC := hat.cls
      have hc := hat.con
      simp only [execOp, e0]
      go_simp
    · simp at ho; subst ho
      refine fo_det (st_holdL TB D w.heap.size id kind addr many wrap pd pl data.length lanes.length cd cl K hKg) hcl rfl rfl rfl rfl (by kernel_rfl) (fun _ _ h => CT.step (by decide) (by decide) h) (fun done ρ W hat => ?_)
      have e0 : ρ (.tmp 0) = .pointer (some ⟨TB, 0, none⟩) := hat.out 0 (by kernel_rfl)
      have hC := hat.cls
      have hc := hat.con
      simp only [execOp, e0]
      go_simp
    · simp at ho; subst ho
      refine fo_det (st_holdL TB D w.heap.size id kind addr many wrap pd pl data.length lanes.length cd cl K hKg) hcl rfl rfl rfl rfl (by kernel_rfl) (fun _ _ h => CT.step (by decide) (by decide) h) (fun done ρ W hat => ?_)
      have e6 : ρ (.tmp 6) = .pointer (some ⟨TB, 0, none⟩) := fIs_at (d := 6) (v := .pointer (some ⟨TB, 0, none⟩)) (hat.fact 2 (by kernel_rfl))
      have hC := hat.cls
      have hc := hat.con
      simp only [execOp, e6]
      go_simp
    · simp at ho; subst ho
      refine fo_det (st_holdL TB D w.heap.size id kind addr many wrap pd pl data.length lanes.length cd cl K hKg) hcl rfl rfl rfl rfl (by kernel_rfl) (fun _ _ h => CT.step (by decide) (by decide) h) (fun done ρ W hat => ?_)
      have e7 : ρ (.tmp 7) = .pointer (some ⟨TB, 0, none⟩) := fIs_at (d := 7) (v := .pointer (some ⟨TB, 0, none⟩)) (hat.fact 3 (by kernel_rfl))
      have hC := hat.cls
      have hc := hat.con
      simp only [execOp, e7]
      go_simp
    · simp at ho; subst ho
      refine fo_det (st_holdL TB D w.heap.size id kind addr many wrap pd pl data.length lanes.length cd cl K hKg) hcl rfl rfl rfl rfl (by kernel_rfl) (fun _ _ h => CT.step (by decide) (by decide) h) (fun done ρ W hat => ?_)
      have e8 : ρ (.tmp 8) = .pointer (some ⟨TB, 0, none⟩) := fIs_at (d := 8) (v := .pointer (some ⟨TB, 0, none⟩)) (hat.fact 4 (by kernel_rfl))
      have hC := hat.cls
      have cT := hC.c0
      have hc := hat.con
      simp only [execOp, e8]
      go_simp
    · simp at ho; subst ho
      refine fo_det (st_holdL TB D w.heap.size id kind addr many wrap pd pl data.length lanes.length cd cl K hKg) hcl rfl rfl rfl rfl (by kernel_rfl) (fun _ _ h => CT.step (by decide) (by decide) h) (fun done ρ W hat => ?_)
      have e3 : ρ (.tmp 3) = .pointer (some ⟨w.heap.size, 0, none⟩) := hat.out 3 (by kernel_rfl)
      have hC := hat.cls
      have hq := (hC.kept.block w.heap.size hBl hBn).trans hB0
      have q0 : W.cell? ⟨w.heap.size, 0, none⟩ = some (.int .i64 id) := heap_cell hq 0
      have q1 : W.cell? ⟨w.heap.size, 1, none⟩ = some (.int .i64 kind) := heap_cell hq 1
      have q2 : W.cell? ⟨w.heap.size, 2, none⟩ = some (.int .i64 addr) := heap_cell hq 2
      have q3 : W.cell? ⟨w.heap.size, 3, none⟩ = some (.int .i64 many) := heap_cell hq 3
      have q4 : W.cell? ⟨w.heap.size, 4, none⟩ = some (.bool wrap) := heap_cell hq 4
      have q5 : W.cell? ⟨w.heap.size, 5, none⟩ = some (.slice pd data.length cd) := heap_cell hq 5
      have q6 : W.cell? ⟨w.heap.size, 6, none⟩ = some (.slice pl lanes.length cl) := heap_cell hq 6
      have hc := hat.con
      simp only [execOp, e3]
      go_simp
    · simp at ho; subst ho
      refine fo_grow (st_holdL TB D w.heap.size id kind addr many wrap pd pl data.length lanes.length cd cl K hKg) hcl rfl rfl (fun done ρ W hat => ?_)
      have e9 : ρ (.tmp 9) = .pointer (some ⟨D, 0, none⟩) := fIs_at (d := 9) (v := .pointer (some ⟨D, 0, none⟩)) (hat.fact 5 (by kernel_rfl))
      have e10 : ρ (.tmp 10) = .agg #[.int .i64 id, .int .i64 kind, .int .i64 addr, .int .i64 many, .bool wrap, .slice pd data.length cd, .slice pl lanes.length cl] := fIs_at (d := 10) (v := .agg #[.int .i64 id, .int .i64 kind, .int .i64 addr, .int .i64 many, .bool wrap, .slice pd data.length cd, .slice pl lanes.length cl]) (hat.fact 6 (by kernel_rfl))
      have hC := hat.cls
      have hf := hat.fn
      refine up_call 112 #[.pointer (some ⟨D, 0, none⟩), .agg #[.int .i64 id, .int .i64 kind, .int .i64 addr, .int .i64 many, .bool wrap, .slice pd data.length cd, .slice pl lanes.length cl]] (by simp only [execOp]; go_simp) ?_
      refine (HWO.out W (hDW W hC.kept)).mono ?_
      rintro e W1 ⟨hKv, hb⟩
      obtain ⟨v, rfl, hKv⟩ := hKv
      exact ⟨v, rfl, CT.grow hKg (by decide) (by decide) hC hb, hb, fK_mk (by rw [updV_same]; exact hKv), free_spec (by kernel_rfl) hat.lt⟩
    · simp at ho; subst ho
      refine fo_det (st_holdL TB D w.heap.size id kind addr many wrap pd pl data.length lanes.length cd cl K hKg) hcl rfl rfl rfl rfl (by kernel_rfl) (fun _ _ h => CT.step (by decide) (by decide) h) (fun done ρ W hat => ?_)
      have e4 : ρ (.tmp 4) = .pointer (some ⟨TB, 0, none⟩) := fIs_at (d := 4) (v := .pointer (some ⟨TB, 0, none⟩)) (hat.fact 0 (by kernel_rfl))
      have hC := hat.cls
      have hc := hat.con
      simp only [execOp, e4]
      go_simp
    · simp at ho; subst ho
      refine fo_det (st_holdL TB D w.heap.size id kind addr many wrap pd pl data.length lanes.length cd cl K hKg) hcl rfl rfl rfl rfl (by kernel_rfl) (fun _ _ h => CT.step (by decide) (by decide) h) (fun done ρ W hat => ?_)
      have e12 : ρ (.tmp 12) = .pointer (some ⟨TB, 0, none⟩) := fIs_at (d := 12) (v := .pointer (some ⟨TB, 0, none⟩)) (hat.fact 8 (by kernel_rfl))
      have hC := hat.cls
      have hc := hat.con
      simp only [execOp, e12]
      go_simp
    · simp at ho; subst ho
      refine fo_rel (S := Kept (fun k => k = TB)) (E := []) (kept_holdL TB D w.heap.size id kind addr many wrap pd pl data.length lanes.length cd cl K hKk) hcl rfl rfl (fun done ρ W hat => ?_)
      have e13 : ρ (.tmp 13) = .pointer (some ⟨TB, 4, none⟩) := fIs_at (d := 13) (v := .pointer (some ⟨TB, 4, none⟩)) (hat.fact 9 (by kernel_rfl))
      have hC := hat.cls
      obtain ⟨u, hbx, hu⟩ := hC.box
      have c4 : W.cell? ⟨TB, 4, none⟩ = some (.int .i64 (if done 10 then 2 else 0)) := heap_cell hbx 4
      have f4 := heap_free hbx 4
      have hc := hat.con
      refine up_skip (W.setCell ⟨TB, 4, none⟩ (.int .i64 2)) (by simp only [execOp]; go_simp) ⟨hC.code hKk, Kept.setCell (D := fun k => k = TB) (p := ⟨TB, 4, none⟩) _ rfl _, trivial, fun j hj hcj => ?_⟩
      exact free_spec (X := fun _ => _) (by kernel_rfl) hat.lt j hj (by simpa using hcj)
    · simp at ho; subst ho
      refine fo_det (st_holdL TB D w.heap.size id kind addr many wrap pd pl data.length lanes.length cd cl K hKg) hcl rfl rfl rfl rfl (by kernel_rfl) (fun _ _ h => CT.step (by decide) (by decide) h) (fun done ρ W hat => ?_)
      have e5 : ρ (.tmp 5) = .pointer (some ⟨TB, 0, none⟩) := fIs_at (d := 5) (v := .pointer (some ⟨TB, 0, none⟩)) (hat.fact 1 (by kernel_rfl))
      have hC := hat.cls
      have hc := hat.con
      simp only [execOp, e5]
      go_simp
    · simp at ho; subst ho
      refine fo_det (st_holdL TB D w.heap.size id kind addr many wrap pd pl data.length lanes.length cd cl K hKg) hcl rfl rfl rfl rfl (by kernel_rfl) (fun _ _ h => CT.step (by decide) (by decide) h) (fun done ρ W hat => ?_)
      have e14 : ρ (.tmp 14) = .pointer (some ⟨TB, 0, none⟩) := fIs_at (d := 14) (v := .pointer (some ⟨TB, 0, none⟩)) (hat.fact 11 (by kernel_rfl))
      have hC := hat.cls
      have hc := hat.con
      simp only [execOp, e14]
      go_simp
    · simp at ho; subst ho
      refine fo_rel (S := Kept (fun k => k = TB)) (E := []) (kept_holdL TB D w.heap.size id kind addr many wrap pd pl data.length lanes.length cd cl K hKk) hcl rfl rfl (fun done ρ W hat => ?_)
      have e15 : ρ (.tmp 15) = .pointer (some ⟨TB, 5, none⟩) := fIs_at (d := 15) (v := .pointer (some ⟨TB, 5, none⟩)) (hat.fact 12 (by kernel_rfl))
      have hC := hat.cls
      obtain ⟨u, hbx, hu⟩ := hC.box
      have hKv : K W (ρ (.tmp 11)) := fK_at (d := 11) (K := K) (hat.fact 7 (by kernel_rfl))
      have c5 : W.cell? ⟨TB, 5, none⟩ = some u := heap_cell hbx 5
      have f5 := heap_free hbx 5
      have h1c := hK1 _ _ hKv
      refine up_skip (W.setCell ⟨TB, 5, none⟩ (ρ (.tmp 11))) (by obtain ⟨g1, c1, e1⟩ := h1c; rw [e1]; simp only [execOp, e1]; go_simp) ⟨hC.data hKk hKv, Kept.setCell (D := fun k => k = TB) (p := ⟨TB, 5, none⟩) _ rfl _, trivial, fun j hj hcj => ?_⟩
      exact free_spec (X := fun _ => _) (by kernel_rfl) hat.lt j hj (by simpa using hcj)
    · simp at ho
  case c0 => exact ⟨Kept.drew _ _, _, hT0, fun h => by cases h⟩
  case done =>
    intro f W1 hC hf hout
    obtain ⟨u, hbx, hu⟩ := hC.box
    have hku := hu rfl
    rw [hK] at hku
    obtain ⟨g, c, rfl, hO, h1, h2, h3⟩ := hku
    have hT1 : W1.heap[TB]? = some (.cells (turnC D who nm only 2 (.slice (some ⟨g, 0, none⟩) (getAll s.words (burst addr many wrap)).length c)) 101 (0, 0)) := hbx
    have hD1 := (hDW W1 hC.kept).2
    have hB1 := (hC.kept.block w.heap.size hBl hBn).trans hB0
    have hTl1 := heap_lt hT1
    have hDl1 := hD1.ltD
    have hBl1 := heap_lt hB1
    have hDH : ¬ (D = H) := hne
    have hBH : ¬ (w.heap.size = H) := by omega
    have HKP := Hid.intro ((Kept.of_below hg0).trans hC.kept)
    have hgl := hO.lt
    have HO := Hid.intro hO
    have HF : Hid (updF (heldF s.holds) who nm (some addr) = heldF (s.holds.set (atR who nm).toNat addr)) := by
      have hb := (adrOk_iff _ _ _).1 hok
      have := held_set (hs := s.holds) (x := who) (y := nm) (v := addr) h.hl hwho (by omega)
      rw [if_neg (by omega)] at this
      exact Hid.intro this
    have HIN : Hid (∀ x ∈ s.holds.set (atR who nm).toNat addr, -1 ≤ x ∧ x ≤ 63) := by
      refine Hid.intro (fun x hx => ?_)
      have hb := (adrOk_iff _ _ _).1 hok
      rcases List.mem_or_eq_of_mem_set hx with hx | rfl
      · exact h.hin x hx
      · omega
    clear hf hout hC hbx hO hu hDW hT0 hD0 hB0
    simp only [fill]
    go_simp
    go_wp2_with fail
    refine wp_region_fl (by kernel_rfl) (fl_holdM TB D H w.heap.size who nm addr) (CM H 13 (heldF s.holds) (updF (heldF s.holds) who nm (some addr)) W1) [16, 17, 18, 19, 20, 21, 22, 23, 24, 25, 26, 27, 28] (by kernel_rfl) (by kernel_rfl) (by kernel_rfl) ?c0 ?looks ?done
    case looks =>
      intro hcl i o ho
      rcases i with _ | _ | _ | _ | _ | _ | _ | _ | _ | _ | _ | _ | _ | _ | i
      · simp at ho; subst ho
        refine fo_det (st_holdM TB D H w.heap.size who nm addr) hcl rfl rfl rfl rfl (by kernel_rfl) (fun _ _ h => CM.step (by decide) h) (fun done ρ W hat => ?_)
        have e0 : ρ (.tmp 0) = .pointer (some ⟨TB, 0, none⟩) := hat.out 0 (by kernel_rfl)
        have hC := hat.cls
        have hc := hat.con
        simp only [execOp, e0]
        go_simp
      · simp at ho; subst ho
        refine fo_det (st_holdM TB D H w.heap.size who nm addr) hcl rfl rfl rfl rfl (by kernel_rfl) (fun _ _ h => CM.step (by decide) h) (fun done ρ W hat => ?_)
        have e16 : ρ (.tmp 16) = .pointer (some ⟨TB, 0, none⟩) := fIs_at (d := 16) (v := .pointer (some ⟨TB, 0, none⟩)) (hat.fact 0 (by kernel_rfl))
        have hC := hat.cls
        have hc := hat.con
        simp only [execOp, e16]
        go_simp
      · simp at ho; subst ho
        refine fo_det (st_holdM TB D H w.heap.size who nm addr) hcl rfl rfl rfl rfl (by kernel_rfl) (fun _ _ h => CM.step (by decide) h) (fun done ρ W hat => ?_)
        have e17 : ρ (.tmp 17) = .pointer (some ⟨TB, 0, none⟩) := fIs_at (d := 17) (v := .pointer (some ⟨TB, 0, none⟩)) (hat.fact 1 (by kernel_rfl))
        have hC := hat.cls
        have hc := hat.con
        simp only [execOp, e17]
        go_simp
      · simp at ho; subst ho
        refine fo_det (st_holdM TB D H w.heap.size who nm addr) hcl rfl rfl rfl rfl (by kernel_rfl) (fun _ _ h => CM.step (by decide) h) (fun done ρ W hat => ?_)
        have e18 : ρ (.tmp 18) = .pointer (some ⟨TB, 0, none⟩) := fIs_at (d := 18) (v := .pointer (some ⟨TB, 0, none⟩)) (hat.fact 2 (by kernel_rfl))
        have hC := hat.cls
        have hx := (hC.1.block TB hTl1 hTH).trans hT1
        have t0 : W.cell? ⟨TB, 0, none⟩ = some (.pointer (some ⟨D, 0, none⟩)) := heap_cell hx 0
        have hc := hat.con
        simp only [execOp, e18]
        go_simp
      · simp at ho; subst ho
        refine fo_det (st_holdM TB D H w.heap.size who nm addr) hcl rfl rfl rfl rfl (by kernel_rfl) (fun _ _ h => CM.step (by decide) h) (fun done ρ W hat => ?_)
        have e19 : ρ (.tmp 19) = .pointer (some ⟨D, 0, none⟩) := fIs_at (d := 19) (v := .pointer (some ⟨D, 0, none⟩)) (hat.fact 3 (by kernel_rfl))
        have hC := hat.cls
        have hc := hat.con
        simp only [execOp, e19]
        go_simp
      · simp at ho; subst ho
        refine fo_det (st_holdM TB D H w.heap.size who nm addr) hcl rfl rfl rfl rfl (by kernel_rfl) (fun _ _ h => CM.step (by decide) h) (fun done ρ W hat => ?_)
        have e20 : ρ (.tmp 20) = .pointer (some ⟨D, 0, none⟩) := fIs_at (d := 20) (v := .pointer (some ⟨D, 0, none⟩)) (hat.fact 4 (by kernel_rfl))
        have hC := hat.cls
        have hc := hat.con
        simp only [execOp, e20]
        go_simp
      · simp at ho; subst ho
        refine fo_det (st_holdM TB D H w.heap.size who nm addr) hcl rfl rfl rfl rfl (by kernel_rfl) (fun _ _ h => CM.step (by decide) h) (fun done ρ W hat => ?_)
        have e21 : ρ (.tmp 21) = .pointer (some ⟨D, 64, none⟩) := fIs_at (d := 21) (v := .pointer (some ⟨D, 64, none⟩)) (hat.fact 5 (by kernel_rfl))
        have hC := hat.cls
        have cm := (hC.1.cell (p := ⟨D, 64, none⟩) hDl1 hDH).trans hD1.mapc
        have hc := hat.con
        simp only [execOp, e21]
        go_simp
      · simp at ho; subst ho
        refine fo_det (st_holdM TB D H w.heap.size who nm addr) hcl rfl rfl rfl rfl (by kernel_rfl) (fun _ _ h => CM.step (by decide) h) (fun done ρ W hat => ?_)
        have e0 : ρ (.tmp 0) = .pointer (some ⟨TB, 0, none⟩) := hat.out 0 (by kernel_rfl)
        have hC := hat.cls
        have hc := hat.con
        simp only [execOp, e0]
        go_simp
      · simp at ho; subst ho
        refine fo_det (st_holdM TB D H w.heap.size who nm addr) hcl rfl rfl rfl rfl (by kernel_rfl) (fun _ _ h => CM.step (by decide) h) (fun done ρ W hat => ?_)
        have e23 : ρ (.tmp 23) = .pointer (some ⟨TB, 0, none⟩) := fIs_at (d := 23) (v := .pointer (some ⟨TB, 0, none⟩)) (hat.fact 7 (by kernel_rfl))
        have hC := hat.cls
        have hc := hat.con
        simp only [execOp, e23]
        go_simp
      · simp at ho; subst ho
        refine fo_det (st_holdM TB D H w.heap.size who nm addr) hcl rfl rfl rfl rfl (by kernel_rfl) (fun _ _ h => CM.step (by decide) h) (fun done ρ W hat => ?_)
        have e24 : ρ (.tmp 24) = .pointer (some ⟨TB, 0, none⟩) := fIs_at (d := 24) (v := .pointer (some ⟨TB, 0, none⟩)) (hat.fact 8 (by kernel_rfl))
        have hC := hat.cls
        have hc := hat.con
        simp only [execOp, e24]
        go_simp
      · simp at ho; subst ho
        refine fo_det (st_holdM TB D H w.heap.size who nm addr) hcl rfl rfl rfl rfl (by kernel_rfl) (fun _ _ h => CM.step (by decide) h) (fun done ρ W hat => ?_)
        have e25 : ρ (.tmp 25) = .pointer (some ⟨TB, 1, none⟩) := fIs_at (d := 25) (v := .pointer (some ⟨TB, 1, none⟩)) (hat.fact 9 (by kernel_rfl))
        have hC := hat.cls
        have hx := (hC.1.block TB hTl1 hTH).trans hT1
        have t1 : W.cell? ⟨TB, 1, none⟩ = some (.int .i64 who) := heap_cell hx 1
        have t2 : W.cell? ⟨TB, 2, none⟩ = some (.int .i64 nm) := heap_cell hx 2
        have hc := hat.con
        simp only [execOp, e25]
        go_simp
      · simp at ho; subst ho
        refine fo_det (st_holdM TB D H w.heap.size who nm addr) hcl rfl rfl rfl rfl (by kernel_rfl) (fun _ _ h => CM.step (by decide) h) (fun done ρ W hat => ?_)
        have e3 : ρ (.tmp 3) = .pointer (some ⟨w.heap.size, 0, none⟩) := hat.out 3 (by kernel_rfl)
        have hC := hat.cls
        have hc := hat.con
        simp only [execOp, e3]
        go_simp
      · simp at ho; subst ho
        refine fo_det (st_holdM TB D H w.heap.size who nm addr) hcl rfl rfl rfl rfl (by kernel_rfl) (fun _ _ h => CM.step (by decide) h) (fun done ρ W hat => ?_)
        have e27 : ρ (.tmp 27) = .pointer (some ⟨w.heap.size, 2, none⟩) := fIs_at (d := 27) (v := .pointer (some ⟨w.heap.size, 2, none⟩)) (hat.fact 11 (by kernel_rfl))
        have hC := hat.cls
        have hx := (hC.1.block w.heap.size hBl1 hBH).trans hB1
        have b2 : W.cell? ⟨w.heap.size, 2, none⟩ = some (.int .i64 addr) := heap_cell hx 2
        have hc := hat.con
        simp only [execOp, e27]
        go_simp
      · simp at ho; subst ho
        refine fo_rel (S := fun _ _ => True) (E := []) (fun jj _ ss dd wa wb _ hbd => still_holdM TB D H w.heap.size who nm addr jj ss dd wa wb hbd) hcl rfl rfl (fun done ρ W hat => ?_)
        have e22 : ρ (.tmp 22) = .map (some H) := fIs_at (d := 22) (v := .map (some H)) (hat.fact 6 (by kernel_rfl))
        have e26 : ρ (.tmp 26) = .agg #[.int .i64 who, .int .i64 nm] := fIs_at (d := 26) (v := .agg #[.int .i64 who, .int .i64 nm]) (hat.fact 10 (by kernel_rfl))
        have e28 : ρ (.tmp 28) = .int .i64 addr := fIs_at (d := 28) (v := .int .i64 addr) (hat.fact 12 (by kernel_rfl))
        have hC := hat.cls
        have hmo := hC.old hat.new
        obtain ⟨o, hrun, hmn⟩ := hmo.write holds_map who nm addr
        unfold keyV at hrun
        refine up_skip (putM W H o) (by simp only [execOp]; go_simp) ⟨hC.turn hmn, trivial, trivial, fun j hj hcj => ?_⟩
        exact free_spec (X := fun _ => _) (by kernel_rfl) hat.lt j hj (by simpa using hcj)
      · simp at ho
    case c0 => exact ⟨Kept.drew _ _, hD1.map.of rfl⟩
    case done =>
      intro f W hC hf hout
      have hMN := hC.new (by decide)
      have hKW := hC.1
      have HD3 : Hid (Desk W D H ⟨s.words, s.holds.set (atR who nm).toNat addr⟩) := by
        refine Hid.intro ⟨(hKW.block _ hDl1 hDH).trans hD1.box, ?_, hD1.wl, by simp [hD1.hl], HIN.out⟩
        rw [HF.out] at hMN; exact hMN
      have HT3 := Hid.intro ((hKW.block TB hTl1 hTH).trans hT1)
      have HO3 := Hid.intro (HO.out.of (hKW.block g hgl (by omega)))
      have HK3 : Hid (Kept (fun k => k = TB ∨ k = H) w W) := Hid.intro ((HKP.out.mono (fun k e => Or.inl e)).trans (hKW.mono (fun k e => Or.inr e)))
      clear hC hf hMN hKW hout
      simp only [fill]
      go_simp
      go_wp2
      go_end0
      exact ⟨⟨_, rfl⟩, ⟨g, c, HT3.out, HO3.out, h1, h2, h3⟩, HD3.out, HK3.out⟩

end Go.Proofs.YtpamjkkghghggaaGreat

namespace Go.Proofs.YtpamjkkghghggaaGreat
open Go.RowKit
set_option linter.unusedSimpArgs false
set_option linter.unusedVariables false

/-- a region whose operation L comes last and leaves Post -/
def CP (L : Nat) (W0 : World) (Post : World → Prop) : (Nat → Bool) → World → Prop := fun d W => if d L then Post W else Below W0.heap.size W0 W
theorem CP.step {L : Nat} {W0 W : World} {Post : World → Prop} {d : Nat → Bool} {i : Nat} (hi : L ≠ i) (h : CP L W0 Post d W) : CP L W0 Post (updB d i) W := by
  unfold CP; rw [updB_ne d hi]; exact h
theorem CP.old {L : Nat} {W0 W : World} {Post : World → Prop} {d : Nat → Bool} (h : CP L W0 Post d W) (hd : d L = false) : Below W0.heap.size W0 W := by
  unfold CP at h; rw [hd] at h; exact h
theorem CP.mk {L : Nat} {W0 W : World} {Post : World → Prop} {d : Nat → Bool} (h : Post W) : CP L W0 Post (updB d L) W := by
  unfold CP; rw [updB_self]; exact h

theorem turn_set {w : World} {TB D : Nat} {who nm c0 : Int} {only : Bool} {u : Value} (hT : w.heap[TB]? = some (.cells (turnC D who nm only c0 u) 101 (0, 0))) (code : Int) (q : Array Value) (t : TypeId) :
    Kept (fun k => k = TB) w ((w.setCell ⟨TB, 4, none⟩ (.int .i64 code)).alloc (.cells q t)) ∧ ((w.setCell ⟨TB, 4, none⟩ (.int .i64 code)).alloc (.cells q t)).heap[TB]? = some (.cells (turnC D who nm only code u) 101 (0, 0)) ∧ ((w.setCell ⟨TB, 4, none⟩ (.int .i64 code)).alloc (.cells q t)).heap[w.heap.size]? = some (.cells q t (0, 0)) := by
  have hl := heap_lt hT
  refine ⟨(Kept.setCell (D := fun k => k = TB) (p := ⟨TB, 4, none⟩) _ rfl _).trans (Kept.of_below (below_nw _ _)), (Below.heap_alloc _ _ _ (by simpa using hl)).trans ((heap_set hT 4 _).trans rfl), nw_at _ (by simp)⟩

def fl_writeP (TB D B : Nat) (id kind addr many : Int) (wrap : Bool) (pd pl : Option Addr) (ld ll cd cl : Nat) : List Fact := [
  fIs 14 (.pointer (some ⟨TB, 0, none⟩)),
  fIs 15 (.pointer (some ⟨TB, 0, none⟩)),
  fIs 16 (.pointer (some ⟨TB, 0, none⟩)),
  fIs 17 (.pointer (some ⟨D, 0, none⟩)),
  fIs 18 (.agg #[.int .i64 id, .int .i64 kind, .int .i64 addr, .int .i64 many, .bool wrap, .slice pd ld cd, .slice pl ll cl]),
  ⟨[], [], fun _ _ _ => True⟩]

theorem st_writeP (TB D B : Nat) (id kind addr many : Int) (wrap : Bool) (pd pl : Option Addr) (ld ll cd cl : Nat) : ∀ F ∈ fl_writeP TB D B id kind addr many wrap pd pl ld ll cd cl, F.Stab :=
  stab_cons (fIs_stab _ _) <|
  stab_cons (fIs_stab _ _) <|
  stab_cons (fIs_stab _ _) <|
  stab_cons (fIs_stab _ _) <|
  stab_cons (fIs_stab _ _) <|
  stab_cons (fun _ _ _ _ _ h => h) stab_nil

theorem still_writeP (TB D B : Nat) (id kind addr many : Int) (wrap : Bool) (pd pl : Option Addr) (ld ll cd cl : Nat) : ∀ j s d w w', (factsOf (fl_writeP TB D B id kind addr many wrap pd pl ld ll cd cl) j).body s d w → (factsOf (fl_writeP TB D B id kind addr many wrap pd pl ld ll cd cl) j).body s d w' := by
  intro j s d w w' hb
  rcases j with _ | _ | _ | _ | _ | _ | j
  all_goals exact hb

def fl_tryP (TB D B : Nat) (id kind addr many : Int) (wrap : Bool) (pd pl : Option Addr) (ld ll cd cl : Nat) : List Fact := [
  fIs 29 (.pointer (some ⟨TB, 0, none⟩)),
  fIs 30 (.pointer (some ⟨TB, 0, none⟩)),
  fIs 31 (.pointer (some ⟨TB, 0, none⟩)),
  fIs 32 (.pointer (some ⟨D, 0, none⟩)),
  fIs 33 (.agg #[.int .i64 id, .int .i64 kind, .int .i64 addr, .int .i64 many, .bool wrap, .slice pd ld cd, .slice pl ll cl]),
  ⟨[], [], fun _ _ _ => True⟩]

theorem st_tryP (TB D B : Nat) (id kind addr many : Int) (wrap : Bool) (pd pl : Option Addr) (ld ll cd cl : Nat) : ∀ F ∈ fl_tryP TB D B id kind addr many wrap pd pl ld ll cd cl, F.Stab :=
  stab_cons (fIs_stab _ _) <|
  stab_cons (fIs_stab _ _) <|
  stab_cons (fIs_stab _ _) <|
  stab_cons (fIs_stab _ _) <|
  stab_cons (fIs_stab _ _) <|
  stab_cons (fun _ _ _ _ _ h => h) stab_nil

theorem still_tryP (TB D B : Nat) (id kind addr many : Int) (wrap : Bool) (pd pl : Option Addr) (ld ll cd cl : Nat) : ∀ j s d w w', (factsOf (fl_tryP TB D B id kind addr many wrap pd pl ld ll cd cl) j).body s d w → (factsOf (fl_tryP TB D B id kind addr many wrap pd pl ld ll cd cl) j).body s d w' := by
  intro j s d w w' hb
  rcases j with _ | _ | _ | _ | _ | _ | j
  all_goals exact hb

def fl_tryH (TB D B : Nat) (who nm addr : Int) (b : Bool) : List Fact := [
  fIs 11 (.pointer (some ⟨TB, 0, none⟩)),
  fIs 12 (.pointer (some ⟨TB, 0, none⟩)),
  fIs 13 (.pointer (some ⟨TB, 0, none⟩)),
  fIs 14 (.pointer (some ⟨D, 0, none⟩)),
  fIs 15 (.pointer (some ⟨TB, 0, none⟩)),
  fIs 16 (.pointer (some ⟨TB, 0, none⟩)),
  fIs 17 (.pointer (some ⟨TB, 1, none⟩)),
  fIs 18 (.agg #[.int .i64 who, .int .i64 nm]),
  fIs 19 (.pointer (some ⟨B, 2, none⟩)),
  fIs 20 (.int .i64 addr),
  fIs 21 (.bool b),
  fIs 22 (.bool (!b))]

theorem st_tryH (TB D B : Nat) (who nm addr : Int) (b : Bool) : ∀ F ∈ fl_tryH TB D B who nm addr b, F.Stab :=
  stab_cons (fIs_stab _ _) <|
  stab_cons (fIs_stab _ _) <|
  stab_cons (fIs_stab _ _) <|
  stab_cons (fIs_stab _ _) <|
  stab_cons (fIs_stab _ _) <|
  stab_cons (fIs_stab _ _) <|
  stab_cons (fIs_stab _ _) <|
  stab_cons (fIs_stab _ _) <|
  stab_cons (fIs_stab _ _) <|
  stab_cons (fIs_stab _ _) <|
  stab_cons (fIs_stab _ _) <|
  stab_cons (fIs_stab _ _) stab_nil

set_option maxRecDepth 100000 in
set_option maxHeartbeats 1000000 in
theorem turn_write (w0 : World) (D H TB : Nat) (s : Stt) (who nm : Int) (only : Bool) (r : Req) (pd pl : Option Addr) (cd cl : Nat) (w : World) (h : Desk w D H s) (hT : w.heap[TB]? = some (.cells (turnC D who nm only 0 (.slice none 0 0)) 101 (0, 0))) (hTD : TB ≠ D) (hTH : TB ≠ H) (hbw : Below w0.heap.size w0 w) (hr : ReqAt w0 r pd cd pl cl) (hMD : w0.heap.size ≤ D) (hMH : w0.heap.size ≤ H) (hMT : w0.heap.size ≤ TB) (hok : adrOkB r.addr r.many r.wrap = true) (hd : (r.data.length : Int) = r.many) (hl : (r.lanes.length : Int) = r.many) :
    Calls Tryz.prog 118 #[.pointer (some ⟨TB, 0, none⟩), reqV r pd cd pl cl] w fun e w' => (∃ v, e = .returned v) ∧ w'.heap[TB]? = some (.cells (turnC D who nm only (if only then 3 else 1) (.slice none 0 0)) 101 (0, 0)) ∧ Desk w' D H (if only then s else ⟨putAll s.words (burst r.addr r.many r.wrap) r.data r.lanes, freeAll s.holds (burst r.addr r.many r.wrap)⟩) ∧ Kept (fun k => k = TB ∨ k = D ∨ k = H) w w' := by
  obtain ⟨id, kind, addr, many, wrap, data, lanes⟩ := r
  simp only at hok hd hl
  have hTl := heap_lt hT
  have hDl := h.ltD
  have hHl := h.ltH
  have hne := h.ne
  have HD := Hid.intro h
  have hws := hbw.size
  have HPQ : Hid (∀ W, Below w0.heap.size w0 W → Desk W D H s → Calls Tryz.prog 120 #[.pointer (some ⟨D, 0, none⟩), .agg #[.int .i64 id, .int .i64 kind, .int .i64 addr, .int .i64 many, .bool wrap, .slice pd data.length cd, .slice pl lanes.length cl]] W fun e w' => (∃ v, e = .returned v) ∧ Desk w' D H ⟨putAll s.words (burst addr many wrap) data lanes, freeAll s.holds (burst addr many wrap)⟩ ∧ Kept (fun k => k = D ∨ k = H) W w') := by
    refine Hid.intro (fun W h1 h2 => ?_)
    have := put_any w0 D H s ⟨id, kind, addr, many, wrap, data, lanes⟩ pd pl cd cl W h1 h2 hr hMD hMH hok hd hl
    unfold reqV at this
    exact this
  clear hd hl
  unfold reqV
  simp only
  have hcT : ∀ (W : World) (code : Int) (u : Value), W.heap[TB]? = some (.cells (turnC D who nm only code u) 101 (0, 0)) → W.cell? ⟨TB, 3, none⟩ = some (.bool only) ∧ W.cell? ⟨TB, 4, none⟩ = some (.int .i64 code) ∧ W.frozen? ⟨TB, 4, none⟩ = false := fun W code u hh => ⟨heap_cell hh 3, heap_cell hh 4, heap_free hh 4⟩
  go_enter Tryz.func118, Tryz.ntmps118
  obtain ⟨W0, hW0⟩ : ∃ W0, w.alloc (.cells #[.int .i64 id, .int .i64 kind, .int .i64 addr, .int .i64 many, .bool wrap, .slice pd data.length cd, .slice pl lanes.length cl] 122) = W0 := ⟨_, rfl⟩
  have hg0 : Gr w W0 := by rw [← hW0]; exact below_nw _ _
  have hB0 : W0.heap[w.heap.size]? = some (.cells #[.int .i64 id, .int .i64 kind, .int .i64 addr, .int .i64 many, .bool wrap, .slice pd data.length cd, .slice pl lanes.length cl] 122 (0, 0)) := by rw [← hW0]; exact nw_at _ rfl
  have hT0 := hg0.cells hT
  have hD0 := HD.out.gr hg0
  have hBl := heap_lt hB0
  have hs0 := hg0.size
  have hTl0 : TB < W0.heap.size := heap_lt hT0
  have hbw0 := hbw.trans (hg0.mono hws)
  obtain ⟨t3, t4, f4⟩ := hcT W0 _ _ hT0
  have t3' := t3
  have t4' := t4
  have f4' := f4
  rw [← hW0] at t3' t4' f4'
  have HW0 := Hid.intro hW0
  clear hW0
  cases only
  · simp only [Bool.false_eq_true, if_false]
    go_wp2_with fail
    obtain ⟨W1, hW1⟩ : ∃ W1, (w.setCell ⟨TB, 4, none⟩ (.int .i64 1)).alloc (.cells #[.int .i64 id, .int .i64 kind, .int .i64 addr, .int .i64 many, .bool wrap, .slice pd data.length cd, .slice pl lanes.length cl] 122) = W1 := ⟨_, rfl⟩
    obtain ⟨hk1, hT1, hB1⟩ := turn_set hT 1 #[.int .i64 id, .int .i64 kind, .int .i64 addr, .int .i64 many, .bool wrap, .slice pd data.length cd, .slice pl lanes.length cl] 122
    rw [hW1] at hk1 hT1 hB1
    rw [hW1]
    clear hW1
    have hD1 := h.of (hk1.block _ hDl (Ne.symm hTD)) (hk1.block _ hHl (Ne.symm hTH))
    have hbw1 : Below w0.heap.size w0 W1 := hbw.trans ⟨hk1.os, hk1.tape, hk1.output, hk1.size, fun k hk => hk1.block k (by omega) (by omega)⟩
    have hTl1 := heap_lt hT1
    have hBl1 := heap_lt hB1
    have HPU : Hid (∀ W, Below W1.heap.size W1 W → Calls Tryz.prog 120 #[.pointer (some ⟨D, 0, none⟩), .agg #[.int .i64 id, .int .i64 kind, .int .i64 addr, .int .i64 many, .bool wrap, .slice pd data.length cd, .slice pl lanes.length cl]] W fun e w' => (∃ v, e = .returned v) ∧ (w'.heap[TB]? = some (.cells (turnC D who nm false 1 (.slice none 0 0)) 101 (0, 0)) ∧ Desk w' D H ⟨putAll s.words (burst addr many wrap) data lanes, freeAll s.holds (burst addr many wrap)⟩ ∧ Kept (fun k => k = D ∨ k = H) W1 w')) := by
      refine Hid.intro (fun W hW => (HPQ.out W (hbw1.trans (hW.mono hbw1.size)) (hD1.gr hW)).mono ?_)
      rintro e w' ⟨hv, h1, h2⟩
      exact ⟨hv, (h2.block TB (Nat.lt_of_lt_of_le hTl1 hW.size) (by omega)).trans ((hW.block TB hTl1).trans hT1), h1, (Kept.of_below hW).trans h2⟩
    have HK1 := Hid.intro hk1
    clear HW0 hk1 hT0 hB0 hD0 t3 t4 f4 t3' t4' f4' hcT hbw0 hbw1 HPQ
    refine wp_region_fl (by kernel_rfl) (fl_writeP TB D w.heap.size id kind addr many wrap pd pl data.length lanes.length cd cl) (CP 5 W1 (fun w' => w'.heap[TB]? = some (.cells (turnC D who nm false 1 (.slice none 0 0)) 101 (0, 0)) ∧ Desk w' D H ⟨putAll s.words (burst addr many wrap) data lanes, freeAll s.holds (burst addr many wrap)⟩ ∧ Kept (fun k => k = D ∨ k = H) W1 w')) [14, 15, 16, 17, 18, 19] (by kernel_rfl) (by kernel_rfl) (by kernel_rfl) ?c0 ?looks ?done
    case looks =>
      intro hcl i o ho
      rcases i with _ | _ | _ | _ | _ | _ | i
      · simp at ho; subst ho
        refine fo_det (st_writeP TB D w.heap.size id kind addr many wrap pd pl data.length lanes.length cd cl) hcl rfl rfl rfl rfl (by kernel_rfl) (fun _ _ h => CP.step (by decide) h) (fun done ρ W hat => ?_)
        have e0 : ρ (.tmp 0) = .pointer (some ⟨TB, 0, none⟩) := hat.out 0 (by kernel_rfl)
        have hC := hat.cls
        have hc := hat.con
        simp only [execOp, e0]
        go_simp
      · simp at ho; subst ho
        refine fo_det (st_writeP TB D w.heap.size id kind addr many wrap pd pl data.length lanes.length cd cl) hcl rfl rfl rfl rfl (by kernel_rfl) (fun _ _ h => CP.step (by decide) h) (fun done ρ W hat => ?_)
        have e14 : ρ (.tmp 14) = .pointer (some ⟨TB, 0, none⟩) := fIs_at (d := 14) (v := .pointer (some ⟨TB, 0, none⟩)) (hat.fact 0 (by kernel_rfl))
        have hC := hat.cls
        have hc := hat.con
        simp only [execOp, e14]
        go_simp
      · simp at ho; subst ho
        refine fo_det (st_writeP TB D w.heap.size id kind addr many wrap pd pl data.length lanes.length cd cl) hcl rfl rfl rfl rfl (by kernel_rfl) (fun _ _ h => CP.step (by decide) h) (fun done ρ W hat => ?_)
        have e15 : ρ (.tmp 15) = .pointer (some ⟨TB, 0, none⟩) := fIs_at (d := 15) (v := .pointer (some ⟨TB, 0, none⟩)) (hat.fact 1 (by kernel_rfl))
        have hC := hat.cls
        have hc := hat.con
        simp only [execOp, e15]
        go_simp
      · simp at ho; subst ho
        refine fo_det (st_writeP TB D w.heap.size id kind addr many wrap pd pl data.length lanes.length cd cl) hcl rfl rfl rfl rfl (by kernel_rfl) (fun _ _ h => CP.step (by decide) h) (fun done ρ W hat => ?_)
        have e16 : ρ (.tmp 16) = .pointer (some ⟨TB, 0, none⟩) := fIs_at (d := 16) (v := .pointer (some ⟨TB, 0, none⟩)) (hat.fact 2 (by kernel_rfl))
        have hC := hat.cls
        have hb0 := CP.old hC (hat.notyet 5 (by kernel_rfl))
        have hx := (hb0.block TB hTl1).trans hT1
        have t0 : W.cell? ⟨TB, 0, none⟩ = some (.pointer (some ⟨D, 0, none⟩)) := heap_cell hx 0
        have hc := hat.con
        simp only [execOp, e16]
        go_simp
      · simp at ho; subst ho
        refine fo_det (st_writeP TB D w.heap.size id kind addr many wrap pd pl data.length lanes.length cd cl) hcl rfl rfl rfl rfl (by kernel_rfl) (fun _ _ h => CP.step (by decide) h) (fun done ρ W hat => ?_)
        have e3 : ρ (.tmp 3) = .pointer (some ⟨w.heap.size, 0, none⟩) := hat.out 3 (by kernel_rfl)
        have hC := hat.cls
        have hb0 := CP.old hC (hat.notyet 5 (by kernel_rfl))
        have hq := (hb0.block w.heap.size hBl1).trans hB1
        have q0 : W.cell? ⟨w.heap.size, 0, none⟩ = some (.int .i64 id) := heap_cell hq 0
        have q1 : W.cell? ⟨w.heap.size, 1, none⟩ = some (.int .i64 kind) := heap_cell hq 1
        have q2 : W.cell? ⟨w.heap.size, 2, none⟩ = some (.int .i64 addr) := heap_cell hq 2
        have q3 : W.cell? ⟨w.heap.size, 3, none⟩ = some (.int .i64 many) := heap_cell hq 3
        have q4 : W.cell? ⟨w.heap.size, 4, none⟩ = some (.bool wrap) := heap_cell hq 4
        have q5 : W.cell? ⟨w.heap.size, 5, none⟩ = some (.slice pd data.length cd) := heap_cell hq 5
        have q6 : W.cell? ⟨w.heap.size, 6, none⟩ = some (.slice pl lanes.length cl) := heap_cell hq 6
        have hc := hat.con
        simp only [execOp, e3]
        go_simp
      · simp at ho; subst ho
        refine fo_rel (S := fun _ _ => True) (E := []) (fun jj _ ss dd wa wb _ hbd => still_writeP TB D w.heap.size id kind addr many wrap pd pl data.length lanes.length cd cl jj ss dd wa wb hbd) hcl rfl rfl (fun done ρ W hat => ?_)
        have e17 : ρ (.tmp 17) = .pointer (some ⟨D, 0, none⟩) := fIs_at (d := 17) (v := .pointer (some ⟨D, 0, none⟩)) (hat.fact 3 (by kernel_rfl))
        have e18 : ρ (.tmp 18) = .agg #[.int .i64 id, .int .i64 kind, .int .i64 addr, .int .i64 many, .bool wrap, .slice pd data.length cd, .slice pl lanes.length cl] := fIs_at (d := 18) (v := .agg #[.int .i64 id, .int .i64 kind, .int .i64 addr, .int .i64 many, .bool wrap, .slice pd data.length cd, .slice pl lanes.length cl]) (hat.fact 4 (by kernel_rfl))
        have hC := hat.cls
        have hf := hat.fn
        have hb0 := CP.old hC hat.new
        refine up_call 120 #[.pointer (some ⟨D, 0, none⟩), .agg #[.int .i64 id, .int .i64 kind, .int .i64 addr, .int .i64 many, .bool wrap, .slice pd data.length cd, .slice pl lanes.length cl]] (by simp only [execOp]; go_simp) ?_
        refine (HPU.out W hb0).mono ?_
        rintro e W1 ⟨⟨v, rfl⟩, hPo⟩
        exact ⟨v, rfl, CP.mk hPo, trivial, trivial, fun j hj hcj => free_spec (X := fun _ => _) (by kernel_rfl) hat.lt j hj (by simpa using hcj)⟩
      · simp at ho
    case c0 => exact (Below.refl _ _).drew
    case done =>
      intro f W hC hf hout
      obtain ⟨h1, h2, h3⟩ : W.heap[TB]? = some (.cells (turnC D who nm false 1 (.slice none 0 0)) 101 (0, 0)) ∧ Desk W D H ⟨putAll s.words (burst addr many wrap) data lanes, freeAll s.holds (burst addr many wrap)⟩ ∧ Kept (fun k => k = D ∨ k = H) W1 W := hC
      have HP := Hid.intro (And.intro h1 (And.intro h2 h3))
      have hk4 : Hid (Kept (fun k => k = TB ∨ k = D ∨ k = H) w W) := Hid.intro ((HK1.out.mono (fun k e => Or.inl e)).trans (h3.mono (fun k e => Or.inr e)))
      clear hf hout h1 h2 h3
      simp only [fill]
      go_simp
      go_wp2
      go_end0
      exact ⟨⟨_, rfl⟩, HP.out.1, HP.out.2.1, hk4.out⟩
  · simp only [if_true]
    obtain ⟨hk1, hT1, hB1⟩ := turn_set hT 3 #[.int .i64 id, .int .i64 kind, .int .i64 addr, .int .i64 many, .bool wrap, .slice pd data.length cd, .slice pl lanes.length cl] 122
    have HD1 := Hid.intro (h.of (hk1.block _ hDl (Ne.symm hTD)) (hk1.block _ hHl (Ne.symm hTH)))
    have HT1 := Hid.intro hT1
    have HK1 : Hid (Kept (fun k => k = TB ∨ k = D ∨ k = H) w _) := Hid.intro (hk1.mono (fun k e => Or.inl e))
    clear hk1 hT0 hB0 hD0 hcT hT1 hB1
    go_wp2
    refine bodyPost_ret (v := .tuple #[]) (by simp [results, Tryz.results118, go_sem]) rfl ?_
    exact ⟨⟨_, rfl⟩, HT1.out, HD1.out, HK1.out⟩

set_option maxRecDepth 100000 in
set_option maxHeartbeats 1000000 in
theorem turn_try (w0 : World) (D H TB : Nat) (s : Stt) (who nm : Int) (only : Bool) (r : Req) (pd pl : Option Addr) (cd cl : Nat) (w : World) (h : Desk w D H s) (hT : w.heap[TB]? = some (.cells (turnC D who nm only 0 (.slice none 0 0)) 101 (0, 0))) (hTD : TB ≠ D) (hTH : TB ≠ H) (hbw : Below w0.heap.size w0 w) (hr : ReqAt w0 r pd cd pl cl) (hMD : w0.heap.size ≤ D) (hMH : w0.heap.size ≤ H) (hMT : w0.heap.size ≤ TB) (hok : adrOkB r.addr r.many r.wrap = true) (hd : (r.data.length : Int) = r.many) (hl : (r.lanes.length : Int) = r.many) (hwho : 0 ≤ who ∧ who ≤ 2) (hnm : nm = 0 ∨ nm = 1) :
    Calls Tryz.prog 117 #[.pointer (some ⟨TB, 0, none⟩), reqV r pd cd pl cl] w fun e w' => (∃ v, e = .returned v) ∧ w'.heap[TB]? = some (.cells (turnC D who nm only (if only then 3 else if getZ s.holds (atR who nm) = r.addr then 2 else 1) (.slice none 0 0)) 101 (0, 0)) ∧ Desk w' D H (if only then s else if getZ s.holds (atR who nm) = r.addr then ⟨putAll s.words (burst r.addr r.many r.wrap) r.data r.lanes, freeAll s.holds (burst r.addr r.many r.wrap)⟩ else s) ∧ Kept (fun k => k = TB ∨ k = D ∨ k = H) w w' := by
  obtain ⟨id, kind, addr, many, wrap, data, lanes⟩ := r
  simp only at hok hd hl
  have hTl := heap_lt hT
  have hDl := h.ltD
  have hHl := h.ltH
  have hne := h.ne
  have HD := Hid.intro h
  have hws := hbw.size
  have HPQ : Hid (∀ W, Below w0.heap.size w0 W → Desk W D H s → Calls Tryz.prog 120 #[.pointer (some ⟨D, 0, none⟩), .agg #[.int .i64 id, .int .i64 kind, .int .i64 addr, .int .i64 many, .bool wrap, .slice pd data.length cd, .slice pl lanes.length cl]] W fun e w' => (∃ v, e = .returned v) ∧ Desk w' D H ⟨putAll s.words (burst addr many wrap) data lanes, freeAll s.holds (burst addr many wrap)⟩ ∧ Kept (fun k => k = D ∨ k = H) W w') := by
    refine Hid.intro (fun W h1 h2 => ?_)
    have := put_any w0 D H s ⟨id, kind, addr, many, wrap, data, lanes⟩ pd pl cd cl W h1 h2 hr hMD hMH hok hd hl
    unfold reqV at this
    exact this
  clear hd hl
  unfold reqV
  simp only
  have hcT : ∀ (W : World) (code : Int) (u : Value), W.heap[TB]? = some (.cells (turnC D who nm only code u) 101 (0, 0)) → W.cell? ⟨TB, 3, none⟩ = some (.bool only) ∧ W.cell? ⟨TB, 4, none⟩ = some (.int .i64 code) ∧ W.frozen? ⟨TB, 4, none⟩ = false := fun W code u hh => ⟨heap_cell hh 3, heap_cell hh 4, heap_free hh 4⟩
  go_enter Tryz.func117, Tryz.ntmps117
  obtain ⟨W0, hW0⟩ : ∃ W0, w.alloc (.cells #[.int .i64 id, .int .i64 kind, .int .i64 addr, .int .i64 many, .bool wrap, .slice pd data.length cd, .slice pl lanes.length cl] 124) = W0 := ⟨_, rfl⟩
  have hg0 : Gr w W0 := by rw [← hW0]; exact below_nw _ _
  have hB0 : W0.heap[w.heap.size]? = some (.cells #[.int .i64 id, .int .i64 kind, .int .i64 addr, .int .i64 many, .bool wrap, .slice pd data.length cd, .slice pl lanes.length cl] 124 (0, 0)) := by rw [← hW0]; exact nw_at _ rfl
  have hT0 := hg0.cells hT
  have hD0 := HD.out.gr hg0
  have hBl := heap_lt hB0
  have hs0 := hg0.size
  have hTl0 : TB < W0.heap.size := heap_lt hT0
  have hbw0 := hbw.trans (hg0.mono hws)
  obtain ⟨t3, t4, f4⟩ := hcT W0 _ _ hT0
  have t3' := t3
  have t4' := t4
  have f4' := f4
  rw [← hW0] at t3' t4' f4'
  have HW0 := Hid.intro hW0
  clear hW0
  cases only
  · simp only [Bool.false_eq_true, if_false]
    have hadr := (adrOk_iff _ _ _).1 hok
    have HB : Hid (decide (heldF s.holds who nm = some addr) = decide (getZ s.holds (atR who nm) = addr)) := by
      refine Hid.intro ?_
      unfold heldF atR
      rw [if_pos (by omega), decide_eq_decide]
      split
      · exact ⟨fun h => (by cases h), fun h => by omega⟩
      · simp
    obtain ⟨b, hb⟩ : ∃ b, b = decide (getZ s.holds (atR who nm) = addr) := ⟨_, rfl⟩
    have HIH : Hid (∀ W, Below W0.heap.size W0 W → Calls Tryz.prog 119 #[.pointer (some ⟨D, 0, none⟩), .agg #[.int .i64 who, .int .i64 nm], .int .i64 addr] W fun e w' => e = .returned (.bool b) ∧ Gr W w') := by
      refine Hid.intro (fun W hW => ?_)
      have := isHeld_any D H s who nm addr W (hD0.gr hW)
      unfold keyV at this
      rw [HB.out, ← hb] at this
      exact this
    have hbe : (if getZ s.holds (atR who nm) = addr then (2 : Int) else 1) = (if b then 2 else 1) := by rw [hb]; by_cases hh : getZ s.holds (atR who nm) = addr <;> simp [hh]
    have hbs : (if getZ s.holds (atR who nm) = addr then ⟨putAll s.words (burst addr many wrap) data lanes, freeAll s.holds (burst addr many wrap)⟩ else s) = (if b then ⟨putAll s.words (burst addr many wrap) data lanes, freeAll s.holds (burst addr many wrap)⟩ else s) := by rw [hb]; by_cases hh : getZ s.holds (atR who nm) = addr <;> simp [hh]
    simp only [hbe, hbs]
    clear hbe hbs hb HB
    go_wp2_with fail
    rw [HW0.out]
    refine wp_region_fl (by kernel_rfl) (fl_tryH TB D w.heap.size who nm addr b) (fun _ => Below W0.heap.size W0) [11, 12, 13, 14, 15, 16, 17, 18, 19, 20, 21, 22] (by kernel_rfl) (by kernel_rfl) (by kernel_rfl) ?c0 ?looks ?done
    case looks =>
      intro hcl i o ho
      rcases i with _ | _ | _ | _ | _ | _ | _ | _ | _ | _ | _ | _ | i
      · simp at ho; subst ho
        refine fo_det (st_tryH TB D w.heap.size who nm addr b) hcl rfl rfl rfl rfl (by kernel_rfl) (fun _ _ h => h) (fun done ρ W hat => ?_)
        have e0 : ρ (.tmp 0) = .pointer (some ⟨TB, 0, none⟩) := hat.out 0 (by kernel_rfl)
        have hC := hat.cls
        have hc := hat.con
        simp only [execOp, e0]
        go_simp
      · simp at ho; subst ho
        refine fo_det (st_tryH TB D w.heap.size who nm addr b) hcl rfl rfl rfl rfl (by kernel_rfl) (fun _ _ h => h) (fun done ρ W hat => ?_)
        have e11 : ρ (.tmp 11) = .pointer (some ⟨TB, 0, none⟩) := fIs_at (d := 11) (v := .pointer (some ⟨TB, 0, none⟩)) (hat.fact 0 (by kernel_rfl))
        have hC := hat.cls
        have hc := hat.con
        simp only [execOp, e11]
        go_simp
      · simp at ho; subst ho
        refine fo_det (st_tryH TB D w.heap.size who nm addr b) hcl rfl rfl rfl rfl (by kernel_rfl) (fun _ _ h => h) (fun done ρ W hat => ?_)
        have e12 : ρ (.tmp 12) = .pointer (some ⟨TB, 0, none⟩) := fIs_at (d := 12) (v := .pointer (some ⟨TB, 0, none⟩)) (hat.fact 1 (by kernel_rfl))
        have hC := hat.cls
        have hc := hat.con
        simp only [execOp, e12]
        go_simp
      · simp at ho; subst ho
        refine fo_det (st_tryH TB D w.heap.size who nm addr b) hcl rfl rfl rfl rfl (by kernel_rfl) (fun _ _ h => h) (fun done ρ W hat => ?_)
        have e13 : ρ (.tmp 13) = .pointer (some ⟨TB, 0, none⟩) := fIs_at (d := 13) (v := .pointer (some ⟨TB, 0, none⟩)) (hat.fact 2 (by kernel_rfl))
        have hC := hat.cls
        have hx := (hC.block TB hTl0).trans hT0
        have t0 : W.cell? ⟨TB, 0, none⟩ = some (.pointer (some ⟨D, 0, none⟩)) := heap_cell hx 0
        have hc := hat.con
        simp only [execOp, e13]
        go_simp
      · simp at ho; subst ho
        refine fo_det (st_tryH TB D w.heap.size who nm addr b) hcl rfl rfl rfl rfl (by kernel_rfl) (fun _ _ h => h) (fun done ρ W hat => ?_)
        have e0 : ρ (.tmp 0) = .pointer (some ⟨TB, 0, none⟩) := hat.out 0 (by kernel_rfl)
        have hC := hat.cls
        have hc := hat.con
        simp only [execOp, e0]
        go_simp
      · simp at ho; subst ho
        refine fo_det (st_tryH TB D w.heap.size who nm addr b) hcl rfl rfl rfl rfl (by kernel_rfl) (fun _ _ h => h) (fun done ρ W hat => ?_)
        have e15 : ρ (.tmp 15) = .pointer (some ⟨TB, 0, none⟩) := fIs_at (d := 15) (v := .pointer (some ⟨TB, 0, none⟩)) (hat.fact 4 (by kernel_rfl))
        have hC := hat.cls
        have hc := hat.con
        simp only [execOp, e15]
        go_simp
      · simp at ho; subst ho
        refine fo_det (st_tryH TB D w.heap.size who nm addr b) hcl rfl rfl rfl rfl (by kernel_rfl) (fun _ _ h => h) (fun done ρ W hat => ?_)
        have e16 : ρ (.tmp 16) = .pointer (some ⟨TB, 0, none⟩) := fIs_at (d := 16) (v := .pointer (some ⟨TB, 0, none⟩)) (hat.fact 5 (by kernel_rfl))
        have hC := hat.cls
        have hc := hat.con
        simp only [execOp, e16]
        go_simp
      · simp at ho; subst ho
        refine fo_det (st_tryH TB D w.heap.size who nm addr b) hcl rfl rfl rfl rfl (by kernel_rfl) (fun _ _ h => h) (fun done ρ W hat => ?_)
        have e17 : ρ (.tmp 17) = .pointer (some ⟨TB, 1, none⟩) := fIs_at (d := 17) (v := .pointer (some ⟨TB, 1, none⟩)) (hat.fact 6 (by kernel_rfl))
        have hC := hat.cls
        have hx := (hC.block TB hTl0).trans hT0
        have t1 : W.cell? ⟨TB, 1, none⟩ = some (.int .i64 who) := heap_cell hx 1
        have t2 : W.cell? ⟨TB, 2, none⟩ = some (.int .i64 nm) := heap_cell hx 2
        have hc := hat.con
        simp only [execOp, e17]
        go_simp
      · simp at ho; subst ho
        refine fo_det (st_tryH TB D w.heap.size who nm addr b) hcl rfl rfl rfl rfl (by kernel_rfl) (fun _ _ h => h) (fun done ρ W hat => ?_)
        have e3 : ρ (.tmp 3) = .pointer (some ⟨w.heap.size, 0, none⟩) := hat.out 3 (by kernel_rfl)
        have hC := hat.cls
        have hc := hat.con
        simp only [execOp, e3]
        go_simp
      · simp at ho; subst ho
        refine fo_det (st_tryH TB D w.heap.size who nm addr b) hcl rfl rfl rfl rfl (by kernel_rfl) (fun _ _ h => h) (fun done ρ W hat => ?_)
        have e19 : ρ (.tmp 19) = .pointer (some ⟨w.heap.size, 2, none⟩) := fIs_at (d := 19) (v := .pointer (some ⟨w.heap.size, 2, none⟩)) (hat.fact 8 (by kernel_rfl))
        have hC := hat.cls
        have hq := (hC.block w.heap.size hBl).trans hB0
        have q2 : W.cell? ⟨w.heap.size, 2, none⟩ = some (.int .i64 addr) := heap_cell hq 2
        have hc := hat.con
        simp only [execOp, e19]
        go_simp
      · simp at ho; subst ho
        refine fo_grow (st_tryH TB D w.heap.size who nm addr b) hcl rfl rfl (fun done ρ W hat => ?_)
        have e14 : ρ (.tmp 14) = .pointer (some ⟨D, 0, none⟩) := fIs_at (d := 14) (v := .pointer (some ⟨D, 0, none⟩)) (hat.fact 3 (by kernel_rfl))
        have e18 : ρ (.tmp 18) = .agg #[.int .i64 who, .int .i64 nm] := fIs_at (d := 18) (v := .agg #[.int .i64 who, .int .i64 nm]) (hat.fact 7 (by kernel_rfl))
        have e20 : ρ (.tmp 20) = .int .i64 addr := fIs_at (d := 20) (v := .int .i64 addr) (hat.fact 9 (by kernel_rfl))
        have hC := hat.cls
        have hf := hat.fn
        have hc := hat.con
        refine up_call 119 #[.pointer (some ⟨D, 0, none⟩), .agg #[.int .i64 who, .int .i64 nm], .int .i64 addr] (by simp only [execOp]; go_simp) ?_
        refine (HIH.out W hC).mono ?_
        rintro e W1 ⟨rfl, hb⟩
        exact ⟨_, rfl, hC.trans (hb.mono hC.size), hb, fIs_mk (updV_same _ _ _), free_spec (by kernel_rfl) hat.lt⟩
      · simp at ho; subst ho
        refine fo_det (st_tryH TB D w.heap.size who nm addr b) hcl rfl rfl rfl rfl (by kernel_rfl) (fun _ _ h => h) (fun done ρ W hat => ?_)
        have e21 : ρ (.tmp 21) = .bool b := fIs_at (d := 21) (v := .bool b) (hat.fact 10 (by kernel_rfl))
        have hC := hat.cls
        have hc := hat.con
        simp only [execOp, e21]
        go_simp
      · simp at ho
    case c0 => exact (Below.refl _ _).drew
    case done =>
      intro f W hC hf hout
      have e21 : f 21 = .bool b := fIs_at (d := 21) (v := .bool b) (hf 10 (by decide))
      have e22 : f 22 = .bool (!b) := fIs_at (d := 22) (v := .bool (!b)) (hf 11 (by decide))
      have hTW := (hC.block TB hTl0).trans hT0
      have hBW := (hC.block w.heap.size hBl).trans hB0
      have hDW := hD0.gr hC
      have hbwW := hbw0.trans (hC.mono hbw0.size)
      have hgW : Gr w W := Below.trans hg0 (Below.mono hC hs0)
      obtain ⟨u3, u4, g4⟩ := hcT W _ _ hTW
      clear hf hout HIH t3 t4 f4 t3' t4' f4' HW0
      cases b
      · simp only [Bool.false_eq_true, if_false, Bool.not_false] at e21 e22 ⊢
        have hk1 : Kept (fun k => k = TB) W (W.setCell ⟨TB, 4, none⟩ (.int .i64 1)) := Kept.setCell (D := fun k => k = TB) (p := ⟨TB, 4, none⟩) _ rfl _
        have HT1 : Hid ((W.setCell ⟨TB, 4, none⟩ (.int .i64 1)).heap[TB]? = some (.cells (turnC D who nm false 1 (.slice none 0 0)) 101 (0, 0))) := Hid.intro ((heap_set hTW 4 _).trans rfl)
        have HD1 := Hid.intro (hDW.of (hk1.block _ hDW.ltD (Ne.symm hTD)) (hk1.block _ hDW.ltH (Ne.symm hTH)))
        have HK1 : Hid (Kept (fun k => k = TB ∨ k = D ∨ k = H) w (W.setCell ⟨TB, 4, none⟩ (.int .i64 1))) := Hid.intro ((Kept.of_below hgW).trans (hk1.mono (fun k e => Or.inl e)))
        clear hk1 hTW hBW hDW hcT hT0 hB0 hD0
        simp only [fill, e21, e22]
        go_simp
        go_wp2
        refine bodyPost_ret (v := .tuple #[]) (by simp [results, Tryz.results117, go_sem]) rfl ?_
        exact ⟨⟨_, rfl⟩, HT1.out, HD1.out, HK1.out⟩
      · simp only [if_true, Bool.not_true] at e21 e22 ⊢
        clear hC hT0 hB0 hD0
        simp only [fill, e21, e22]
        go_simp
        go_wp2_with fail
        obtain ⟨W1, hW1⟩ : ∃ W1, W.setCell ⟨TB, 4, none⟩ (.int .i64 2) = W1 := ⟨_, rfl⟩
        have hk1 : Kept (fun k => k = TB) W W1 := by rw [← hW1]; exact Kept.setCell (D := fun k => k = TB) (p := ⟨TB, 4, none⟩) _ rfl _
        have hT1 : W1.heap[TB]? = some (.cells (turnC D who nm false 2 (.slice none 0 0)) 101 (0, 0)) := by rw [← hW1]; exact (heap_set hTW 4 _).trans rfl
        rw [hW1]
        clear hW1
        have hB1 := (hk1.block _ (heap_lt hBW) (by omega)).trans hBW
        have hD1 := hDW.of (hk1.block _ hDW.ltD (Ne.symm hTD)) (hk1.block _ hDW.ltH (Ne.symm hTH))
        have hbw1 : Below w0.heap.size w0 W1 := hbwW.trans ⟨hk1.os, hk1.tape, hk1.output, hk1.size, fun k hk => hk1.block k (by have := hbwW.size; omega) (by omega)⟩
        have hTl1 := heap_lt hT1
        have hBl1 := heap_lt hB1
        have HPU : Hid (∀ W, Below W1.heap.size W1 W → Calls Tryz.prog 120 #[.pointer (some ⟨D, 0, none⟩), .agg #[.int .i64 id, .int .i64 kind, .int .i64 addr, .int .i64 many, .bool wrap, .slice pd data.length cd, .slice pl lanes.length cl]] W fun e w' => (∃ v, e = .returned v) ∧ (w'.heap[TB]? = some (.cells (turnC D who nm false 2 (.slice none 0 0)) 101 (0, 0)) ∧ Desk w' D H ⟨putAll s.words (burst addr many wrap) data lanes, freeAll s.holds (burst addr many wrap)⟩ ∧ Kept (fun k => k = D ∨ k = H) W1 w')) := by
          refine Hid.intro (fun W hW => (HPQ.out W (hbw1.trans (hW.mono hbw1.size)) (hD1.gr hW)).mono ?_)
          rintro e w' ⟨hv, h1, h2⟩
          exact ⟨hv, (h2.block TB (Nat.lt_of_lt_of_le hTl1 hW.size) (by omega)).trans ((hW.block TB hTl1).trans hT1), h1, (Kept.of_below hW).trans h2⟩
        have HK1 := Hid.intro ((Kept.of_below hgW).trans hk1)
        clear hk1 hTW hBW hDW hcT hbw1 HPQ hbwW
        go_wp2_with fail
        refine wp_region_fl (by kernel_rfl) (fl_tryP TB D w.heap.size id kind addr many wrap pd pl data.length lanes.length cd cl) (CP 5 W1 (fun w' => w'.heap[TB]? = some (.cells (turnC D who nm false 2 (.slice none 0 0)) 101 (0, 0)) ∧ Desk w' D H ⟨putAll s.words (burst addr many wrap) data lanes, freeAll s.holds (burst addr many wrap)⟩ ∧ Kept (fun k => k = D ∨ k = H) W1 w')) [29, 30, 31, 32, 33, 34] (by kernel_rfl) (by kernel_rfl) (by kernel_rfl) ?c0 ?looks ?done
        case looks =>
          intro hcl i o ho
          rcases i with _ | _ | _ | _ | _ | _ | i
          · simp at ho; subst ho
            refine fo_det (st_tryP TB D w.heap.size id kind addr many wrap pd pl data.length lanes.length cd cl) hcl rfl rfl rfl rfl (by kernel_rfl) (fun _ _ h => CP.step (by decide) h) (fun done ρ W hat => ?_)
            have e0 : ρ (.tmp 0) = .pointer (some ⟨TB, 0, none⟩) := hat.out 0 (by kernel_rfl)
            have hC := hat.cls
            have hc := hat.con
            simp only [execOp, e0]
            go_simp
          · simp at ho; subst ho
            refine fo_det (st_tryP TB D w.heap.size id kind addr many wrap pd pl data.length lanes.length cd cl) hcl rfl rfl rfl rfl (by kernel_rfl) (fun _ _ h => CP.step (by decide) h) (fun done ρ W hat => ?_)
            have e29 : ρ (.tmp 29) = .pointer (some ⟨TB, 0, none⟩) := fIs_at (d := 29) (v := .pointer (some ⟨TB, 0, none⟩)) (hat.fact 0 (by kernel_rfl))
            have hC := hat.cls
            have hc := hat.con
            simp only [execOp, e29]
            go_simp
          · simp at ho; subst ho
            refine fo_det (st_tryP TB D w.heap.size id kind addr many wrap pd pl data.length lanes.length cd cl) hcl rfl rfl rfl rfl (by kernel_rfl) (fun _ _ h => CP.step (by decide) h) (fun done ρ W hat => ?_)
            have e30 : ρ (.tmp 30) = .pointer (some ⟨TB, 0, none⟩) := fIs_at (d := 30) (v := .pointer (some ⟨TB, 0, none⟩)) (hat.fact 1 (by kernel_rfl))
            have hC := hat.cls
            have hc := hat.con
            simp only [execOp, e30]
            go_simp
          · simp at ho; subst ho
            refine fo_det (st_tryP TB D w.heap.size id kind addr many wrap pd pl data.length lanes.length cd cl) hcl rfl rfl rfl rfl (by kernel_rfl) (fun _ _ h => CP.step (by decide) h) (fun done ρ W hat => ?_)
            have e31 : ρ (.tmp 31) = .pointer (some ⟨TB, 0, none⟩) := fIs_at (d := 31) (v := .pointer (some ⟨TB, 0, none⟩)) (hat.fact 2 (by kernel_rfl))
            have hC := hat.cls
            have hb0 := CP.old hC (hat.notyet 5 (by kernel_rfl))
            have hx := (hb0.block TB hTl1).trans hT1
            have t0 : W.cell? ⟨TB, 0, none⟩ = some (.pointer (some ⟨D, 0, none⟩)) := heap_cell hx 0
            have hc := hat.con
            simp only [execOp, e31]
            go_simp
          · simp at ho; subst ho
            refine fo_det (st_tryP TB D w.heap.size id kind addr many wrap pd pl data.length lanes.length cd cl) hcl rfl rfl rfl rfl (by kernel_rfl) (fun _ _ h => CP.step (by decide) h) (fun done ρ W hat => ?_)
            have e3 : ρ (.tmp 3) = .pointer (some ⟨w.heap.size, 0, none⟩) := hat.out 3 (by kernel_rfl)
            have hC := hat.cls
            have hb0 := CP.old hC (hat.notyet 5 (by kernel_rfl))
            have hq := (hb0.block w.heap.size hBl1).trans hB1
            have q0 : W.cell? ⟨w.heap.size, 0, none⟩ = some (.int .i64 id) := heap_cell hq 0
            have q1 : W.cell? ⟨w.heap.size, 1, none⟩ = some (.int .i64 kind) := heap_cell hq 1
            have q2 : W.cell? ⟨w.heap.size, 2, none⟩ = some (.int .i64 addr) := heap_cell hq 2
            have q3 : W.cell? ⟨w.heap.size, 3, none⟩ = some (.int .i64 many) := heap_cell hq 3
            have q4 : W.cell? ⟨w.heap.size, 4, none⟩ = some (.bool wrap) := heap_cell hq 4
            have q5 : W.cell? ⟨w.heap.size, 5, none⟩ = some (.slice pd data.length cd) := heap_cell hq 5
            have q6 : W.cell? ⟨w.heap.size, 6, none⟩ = some (.slice pl lanes.length cl) := heap_cell hq 6
            have hc := hat.con
            simp only [execOp, e3]
            go_simp
          · simp at ho; subst ho
            refine fo_rel (S := fun _ _ => True) (E := []) (fun jj _ ss dd wa wb _ hbd => still_tryP TB D w.heap.size id kind addr many wrap pd pl data.length lanes.length cd cl jj ss dd wa wb hbd) hcl rfl rfl (fun done ρ W hat => ?_)
            have e32 : ρ (.tmp 32) = .pointer (some ⟨D, 0, none⟩) := fIs_at (d := 32) (v := .pointer (some ⟨D, 0, none⟩)) (hat.fact 3 (by kernel_rfl))
            have e33 : ρ (.tmp 33) = .agg #[.int .i64 id, .int .i64 kind, .int .i64 addr, .int .i64 many, .bool wrap, .slice pd data.length cd, .slice pl lanes.length cl] := fIs_at (d := 33) (v := .agg #[.int .i64 id, .int .i64 kind, .int .i64 addr, .int .i64 many, .bool wrap, .slice pd data.length cd, .slice pl lanes.length cl]) (hat.fact 4 (by kernel_rfl))
            have hC := hat.cls
            have hf := hat.fn
            have hb0 := CP.old hC hat.new
            refine up_call 120 #[.pointer (some ⟨D, 0, none⟩), .agg #[.int .i64 id, .int .i64 kind, .int .i64 addr, .int .i64 many, .bool wrap, .slice pd data.length cd, .slice pl lanes.length cl]] (by simp only [execOp]; go_simp) ?_
            refine (HPU.out W hb0).mono ?_
            rintro e W1 ⟨⟨v, rfl⟩, hPo⟩
            exact ⟨v, rfl, CP.mk hPo, trivial, trivial, fun j hj hcj => free_spec (X := fun _ => _) (by kernel_rfl) hat.lt j hj (by simpa using hcj)⟩
          · simp at ho
        case c0 => exact (Below.refl _ _).drew
        case done =>
          intro f W hC hf hout
          obtain ⟨h1, h2, h3⟩ : W.heap[TB]? = some (.cells (turnC D who nm false 2 (.slice none 0 0)) 101 (0, 0)) ∧ Desk W D H ⟨putAll s.words (burst addr many wrap) data lanes, freeAll s.holds (burst addr many wrap)⟩ ∧ Kept (fun k => k = D ∨ k = H) W1 W := hC
          have HP := Hid.intro (And.intro h1 (And.intro h2 h3))
          have hk4 : Hid (Kept (fun k => k = TB ∨ k = D ∨ k = H) w W) := Hid.intro ((HK1.out.mono (fun k e => Or.inl e)).trans (h3.mono (fun k e => Or.inr e)))
          clear hf hout h1 h2 h3
          simp only [fill]
          go_simp
          go_wp2
          go_end0
          exact ⟨⟨_, rfl⟩, HP.out.1, HP.out.2.1, hk4.out⟩
  · simp only [if_true]
    obtain ⟨hk1, hT1, hB1⟩ := turn_set hT 3 #[.int .i64 id, .int .i64 kind, .int .i64 addr, .int .i64 many, .bool wrap, .slice pd data.length cd, .slice pl lanes.length cl] 124
    have HD1 := Hid.intro (h.of (hk1.block _ hDl (Ne.symm hTD)) (hk1.block _ hHl (Ne.symm hTH)))
    have HT1 := Hid.intro hT1
    have HK1 : Hid (Kept (fun k => k = TB ∨ k = D ∨ k = H) w _) := Hid.intro (hk1.mono (fun k e => Or.inl e))
    clear hk1 hT0 hB0 hD0 hcT hT1 hB1
    go_wp2
    refine bodyPost_ret (v := .tuple #[]) (by simp [results, Tryz.results117, go_sem]) rfl ?_
    exact ⟨⟨_, rfl⟩, HT1.out, HD1.out, HK1.out⟩

end Go.Proofs.YtpamjkkghghggaaGreat
