/-
  l2Put of the model: words put to addresses, in place.
-/
import Derived.Test.YtlifkfemdknndaaPureT
import Derived.Test.YtlifkfemdknndaaAppS
import Derived.Test.YtlifkfemdknndaaFacts
import Derived.Laws.ResultCell
import Derived.Laws.Rows
/-
  AtmOk, and copies, of the model.
-/
namespace Go.Proofs.Ytlifkfemdknndaa
open Go.RowKit
set_option linter.unusedSimpArgs false
set_option linter.unusedVariables false

theorem nw_at {w : World} {n : Nat} (o : Obj) (h : n = w.heap.size) : (w.alloc o).heap[n]? = some o := by
  subst h
  show (w.heap.push o)[w.heap.size]? = some o
  simp

theorem stOk_eq (s : Stt) : stOkB s = (memOkB s.words && (((s.holds.length : Int) == 6) && allIn s.holds (-1) 63)) := by
  unfold stOkB
  rw [show decide (s.holds.length = 6) = ((s.holds.length : Int) == 6) by rw [Bool.eq_iff_iff]; simp; omega]

set_option maxRecDepth 100000 in
set_option maxHeartbeats 1000000 in
theorem spec_AtmOk (s : Stt) (pw ph : Option Addr) (cw ch : Nat) (w : World) (h : StAt w s pw cw ph ch) :
    Calls Try.prog 56 #[stV s pw cw ph ch] w fun e w' => e = .returned (.bool (stOkB s)) ∧ Below w.heap.size w w' := by
  have hbl : ∀ o, Below w.heap.size w (w.alloc o) := fun o => (Below.refl _ w).alloc (Nat.le_refl _) o
  have HE := Hid.intro (stOk_eq s)
  have HA := Hid.intro h
  clear h
  unfold stV
  go_enter Try.func56, Try.ntmps56
  go_wp2_with fail
  refine (spec_MemOk pw cw s.words _ (HA.out.below (hbl _)).words HA.out.cw1 HA.out.cw2).mono ?_
  rintro e w1 ⟨rfl, hb1⟩
  have hs1 := hb1.size
  simp at hs1
  have c1 : w1.cell? ⟨w.heap.size, 1, none⟩ = some (.slice ph s.holds.length ch) := (hb1.cell (p := ⟨w.heap.size, 1, none⟩) (by simp)).trans (by simp)
  have hb1' := (hbl _).trans (hb1.mono (hbl _).size)
  have HA1 := Hid.intro (HA.out.below hb1')
  clear hb1 HA
  cases h1 : memOkB s.words
  · go_wp2
    go_ret
    exact ⟨by rw [HE.out, h1]; rfl, hb1'⟩
  cases h2 : ((s.holds.length : Int) == 6)
  · go_wp2
    go_ret
    exact ⟨by rw [HE.out, h1, h2]; rfl, hb1'⟩
  go_wp2_with fail
  refine (l3All_any ph ch s.holds (-1) 63 w1 HA1.out.holds HA1.out.ch1 HA1.out.ch2).mono ?_
  rintro e w2 ⟨rfl, hw⟩
  replace hw := hw.symm
  subst hw
  go_wp2
  go_ret
  exact ⟨by rw [HE.out, h1, h2]; rfl, hb1'⟩

/-- append to an empty row without room: nothing that lay turns -/
theorem run_app_new {ρ : Operand → Value} {o : Oper} {w : World} {s x g : Nat} {p : Option Addr} {c : Nat} {ys : List Int}
    (ho : o.op = .call { callee := .builtin .append, args := #[.tmp s, .tmp x], argTypes := #[24, 24] })
    (hs : ρ (.tmp s) = .slice (some ⟨g, 0, none⟩) 0 0) (hE : w.heap[g]? = some (.cells #[] 3 (0, 0))) (hx : ρ (.tmp x) = .slice p ys.length c) (hY : IntsAt w p ys) (hlen : ys.length ≤ 100000) :
    ∃ g' c' w', (execOp ρ o).run Try.prog w = .ok (.value (.slice (some ⟨g', 0, none⟩) ys.length c')) w' ∧ ORow 3 1 w' g' c' ys.length (ys.map (Value.int .i64)) ∧ ys.length ≤ c' ∧ c' ≤ 9223372036854775807 ∧ (ys ≠ [] → w.heap.size ≤ g') ∧ (g' = g ∨ w.heap.size ≤ g') ∧ Gr w w' := by
  obtain ⟨i0, hi, hz0, hz1, hz2⟩ := info_parts Try.infoInt
  have hW : ORow 3 1 w g 0 0 ([] : List Value) := ⟨#[], hE, rfl, Nat.le_refl _, rfl, rfl⟩
  by_cases hp : ∃ b off, p = some ⟨b, off, none⟩
  · obtain ⟨b, off, rfl⟩ := hp
    obtain ⟨g', cap', w', e, hO, hc', hG, hg', hold⟩ := run_append_rows (P := Try.prog) (w := w) (ρ := ρ) (o := o) (xs := []) (ys := ys.map (Value.int .i64)) 24 3 i0 _ 1 8 Try.underlying24 hi hz0 hz1 hz2 rfl (by omega) ho hs hW hx (by simp) (news_ints hY) (by simp [Value.oneCell']) (by unfold maxLen; omega) (by unfold maxLen; omega) (by omega)
    have hg0 := hold 0 0 [] hW (.inl (Nat.le_refl _))
    have hgE : w'.heap[g]? = w.heap[g]? := by
      obtain ⟨cur, k1, k2, _⟩ := hg0
      have : cur = #[] := Array.eq_empty_of_size_eq_zero (by omega)
      rw [k1, hE, this]
    have hgr : Gr w w' := ⟨hG.os, hG.tape, hG.output, hG.size, fun k hk => by
      by_cases hkg : k = g
      · rw [hkg]; exact hgE
      · exact hG.block k hk hkg⟩
    have hO' : ORow 3 1 w' g' cap' ys.length (ys.map (Value.int .i64)) := by simpa using hO
    have hcl' : ys.length ≤ cap' := by obtain ⟨_, _, _, h, _⟩ := hO'; exact h
    refine ⟨g', cap', w', by simpa using e, hO', hcl', by unfold maxLen at hc'; omega, fun hne => ?_, hg', hgr⟩
    rcases hg' with rfl | h
    · exfalso
      obtain ⟨cur, k1, k2, k3, _⟩ := hO'
      rw [hgE, hE] at k1
      cases k1
      have : ys.length = 0 := by simp at k2; omega
      exact hne (List.length_eq_zero_iff.1 this)
    · exact h
  · have hy : ys = [] := by
      rcases hY with h | ⟨b, off, h, _⟩
      · exact h
      · exact absurd ⟨b, off, h⟩ hp
    subst hy
    have hrun : (Builtin.append_ #[24, 24] o.type #[.slice (some ⟨g, 0, none⟩) 0 0, .slice p 0 c]).run Try.prog w = .ok (.slice (some ⟨g, 0, none⟩) 0 0) w := by
      cases p with
      | none => simp [Builtin.append_, run_underlying Try.underlying24, sizeOf, typeInfo, hi, Builtin.lenOf, Builtin.firstCells, loadCells, loadCellsFrom, storeCells]
      | some a => simp [Builtin.append_, run_underlying Try.underlying24, sizeOf, typeInfo, hi, Builtin.lenOf, Builtin.firstCells, loadCells, loadCellsFrom, storeCells]
    refine ⟨g, 0, w, ?_, hW, Nat.le_refl _, by omega, fun h => absurd rfl h, .inl rfl, Gr.refl _⟩
    unfold execOp
    simp only [ho, resolve, invoke, builtin, Sem.run_bind, Sem.run_pure, Result.andThen_ok, List.map_toArray, List.map_cons, List.map_nil, hs, hx, List.length_nil, hrun]

theorem ty_app_new {ρ : Operand → Value} {o : Oper} {w : World} {s x g : Nat} {p : Option Addr} {c : Nat} {ys : List Int} {F : World → Value → Prop}
    (ho : o.op = .call { callee := .builtin .append, args := #[.tmp s, .tmp x], argTypes := #[24, 24] })
    (hs : ρ (.tmp s) = .slice (some ⟨g, 0, none⟩) 0 0) (hE : w.heap[g]? = some (.cells #[] 3 (0, 0))) (hx : ρ (.tmp x) = .slice p ys.length c) (hY : IntsAt w p ys) (hlen : ys.length ≤ 100000)
    (h : ∀ g' c' w', ORow 3 1 w' g' c' ys.length (ys.map (Value.int .i64)) → ys.length ≤ c' → c' ≤ 9223372036854775807 → (ys ≠ [] → w.heap.size ≤ g') → (g' = g ∨ w.heap.size ≤ g') → Gr w w' → F w' (.slice (some ⟨g', 0, none⟩) ys.length c')) : tyUpon Try.prog F ((execOp ρ o).run Try.prog w) := by
  obtain ⟨g', c', w', r1, r2, r3, r4, r5, r6, r7⟩ := run_app_new ho hs hE hx hY hlen
  rw [r1]
  exact h g' c' w' r2 r3 r4 r5 r6 r7

theorem ty_app_some {ρ : Operand → Value} {o : Oper} {w : World} {s x g cap : Nat} {p : Option Addr} {c : Nat} (xs ys : List Int) {F : World → Value → Prop}
    (ho : o.op = .call { callee := .builtin .append, args := #[.tmp s, .tmp x], argTypes := #[24, 24] })
    (hs : ρ (.tmp s) = .slice (some ⟨g, 0, none⟩) xs.length cap) (hW : ORow 3 1 w g cap xs.length (xs.map (Value.int .i64))) (hcap : cap ≤ maxLen) (hx : ρ (.tmp x) = .slice p ys.length c) (hY : IntsAt w p ys) (hlen : xs.length + ys.length ≤ 100000)
    (h : ∀ v w', AppPost w g (xs ++ ys) v w' → F w' v) : tyUpon Try.prog F ((execOp ρ o).run Try.prog w) := by
  obtain ⟨v, w', r1, r2⟩ := run_app_some ho hs hW hcap hx hY hlen
  rw [r1]
  exact h v w' r2

theorem wpList_app_new {ops : Array Oper} {rest : List Oper} {o : Oper} {a : Act} {Q : Exit → Act → World → Prop} {w : World} {s x g : Nat} {p : Option Addr} {c : Nat} (ys : List Int) (hg : o.guard = none)
    (ho : o.op = .call { callee := .builtin .append, args := #[.tmp s, .tmp x], argTypes := #[24, 24] })
    (hs : a.eval (.tmp s) = .slice (some ⟨g, 0, none⟩) 0 0) (hE : w.heap[g]? = some (.cells #[] 3 (0, 0))) (hx : a.eval (.tmp x) = .slice p ys.length c) (hY : IntsAt w p ys) (hlen : ys.length ≤ 100000)
    (h : ∀ g' c' w', ORow 3 1 w' g' c' ys.length (ys.map (Value.int .i64)) → ys.length ≤ c' → c' ≤ 9223372036854775807 → (g' = g ∨ w.heap.size ≤ g') → Gr w w' → wpList Try.prog ops Q rest (a.put o.dst (.slice (some ⟨g', 0, none⟩) ys.length c')) w') : wpList Try.prog ops Q (o :: rest) a w := by
  refine wpList_plain hg (fun K hK => ?_)
  obtain ⟨g', c', w', r1, r2, r3, r4, _, r5, r6⟩ := run_app_new (ρ := a.eval) ho hs hE hx hY hlen
  unfold Oper.wp
  rw [r1]
  exact hK _ _ (h g' c' w' r2 r3 r4 r5 r6)

set_option maxRecDepth 100000 in
set_option maxHeartbeats 1000000 in
theorem spec_l2Copy (p : Option Addr) (cap : Nat) (xs : List Int) (w : World) (hx : IntsAt w p xs) (hl : xs.length ≤ 100000) :
    Calls Try.prog 89 #[.agg #[.slice p xs.length cap]] w fun e w' => ∃ g c, e = .returned (.agg #[.slice (some ⟨g, 0, none⟩) xs.length c]) ∧ ORow 3 1 w' g c xs.length (xs.map (Value.int .i64)) ∧ xs.length ≤ c ∧ c ≤ 9223372036854775807 ∧ w.heap.size ≤ g ∧ Below w.heap.size w w' := by
  have HX := Hid.intro hx
  clear hx
  have hb3 : ∀ o o' o'', Below w.heap.size w (((w.alloc o).alloc o').alloc o'') := fun o o' o'' => (((Below.refl _ w).alloc (Nat.le_refl _) o).alloc (by simp) o').alloc (by simp <;> omega) o''
  go_enter Try.func89, Try.ntmps89
  go_wp2_with (at_builtin; refine wpList_app_new xs rfl rfl rfl (nw_at _ (by simp)) rfl (HX.out.below (hb3 _ _ _)) hl ?_; intro g' c' w1 hO h1 h2 hg hgr; have bR : w1.heap[w.heap.size + 1]? = some (.cells #[.slice none 0 0] 43 (0, 0)) := (hgr.block _ (by simp <;> omega)).trans ((Below.heap_alloc _ _ _ (by simp)).trans (nw_at _ (by simp))); have cR : w1.cell? ⟨w.heap.size + 1, 0, none⟩ = some (.slice none 0 0) := (heap_cell bR 0).trans rfl; have fR := heap_free bR 0)
  have hs1 := hgr.size
  simp at hs1
  have hbb := (hb3 _ _ _).trans (hgr.mono (hb3 _ _ _).size)
  have hgl : w.heap.size + 2 ≤ g' := by
    rcases hg with rfl | hg
    · omega
    · simp at hg; omega
  have bR2 := heap_set bR 0 (.slice (some ⟨g', 0, none⟩) xs.length c')
  have cR2 : (w1.setCell ⟨w.heap.size + 1, 0, none⟩ (.slice (some ⟨g', 0, none⟩) xs.length c')).cell? ⟨w.heap.size + 1, 0, none⟩ = some (.slice (some ⟨g', 0, none⟩) xs.length c') := (heap_cell bR2 0).trans rfl
  have HO := Hid.intro (hO.of (heap_set_ne (b := w.heap.size + 1) (i := 0) (v := .slice (some ⟨g', 0, none⟩) xs.length c') (by omega)))
  refine bodyPost_ret (v := .agg #[.slice (some ⟨g', 0, none⟩) xs.length c']) (by simp [results, Try.results89, go_sem, cR2]) rfl ⟨g', c', rfl, HO.out, h1, h2, by omega, hbb.setCell (p := ⟨w.heap.size + 1, 0, none⟩) (by simp) _⟩

end Go.Proofs.Ytlifkfemdknndaa

/-
  l4Copy of the model: the same store, and what is held, in new memory.
-/
namespace Go.Proofs.Ytlifkfemdknndaa
open Go.RowKit
set_option linter.unusedSimpArgs false
set_option linter.unusedVariables false

/-- the class of worlds of a region that stores into one box of two cells: all else of what lay lies as it lay -/
structure CB2 (R : Nat) (T : TypeId) (W0 W : World) : Prop where
  kept : Kept (fun k => k = R) W0 W
  box : ∃ v0 v1, W.heap[R]? = some (.cells #[v0, v1] T (0, 0))
theorem CB2.gr {R : Nat} {T : TypeId} {W0 W W' : World} (h : CB2 R T W0 W) (hg : Gr W W') : CB2 R T W0 W' := by
  obtain ⟨hk, v0, v1, hb⟩ := h
  exact ⟨hk.trans (Kept.of_below hg), v0, v1, hg.cells hb⟩
theorem CB2.set {R : Nat} {T : TypeId} {W0 W : World} (h : CB2 R T W0 W) (v0 v1 : Value) : CB2 R T W0 ((W.setCell ⟨R, 0, none⟩ v0).setCell ⟨R, 1, none⟩ v1) := by
  obtain ⟨hk, u0, u1, hb⟩ := h
  exact ⟨(hk.trans (Kept.setCell (D := fun k => k = R) (p := ⟨R, 0, none⟩) _ rfl _)).trans (Kept.setCell (D := fun k => k = R) (p := ⟨R, 1, none⟩) _ rfl _), v0, v1, (heap_set (heap_set hb 0 v0) 1 v1).trans rfl⟩
theorem CB2.ints {R : Nat} {T : TypeId} {w W0 W : World} {p : Option Addr} {l : List Int} (h : CB2 R T W0 W) (hbw : Below w.heap.size w W0) (hR : w.heap.size ≤ R) (hi : IntsAt w p l) : IntsAt W p l := by
  rcases hi with hx | ⟨b, off, rfl, hb, hc⟩
  · exact .inl hx
  · have hs1 := hbw.size
    have hs2 := h.kept.size
    exact .inr ⟨b, off, rfl, by omega, fun k hk => (h.kept.cell (p := ⟨b, off + k, none⟩) (by show b < _; omega) (by show ¬ b = _; omega)).trans ((hbw.cell (p := ⟨b, off + k, none⟩) hb).trans (hc k hk))⟩

theorem below_nw (w : World) (o : Obj) : Gr w (w.alloc o) := (Below.refl _ w).alloc (Nat.le_refl _) o

def k3_l4Copy (M B R : Nat) (ws hs : List Int) (pw ph : Option Addr) (cw ch : Nat) : World → Value → Prop := fun w v => ∃ g, v = .slice (some ⟨g, 0, none⟩) 0 0 ∧ M ≤ g ∧ w.heap[g]? = some (.cells #[] 3 (0, 0))
def k6_l4Copy (M B R : Nat) (ws hs : List Int) (pw ph : Option Addr) (cw ch : Nat) : World → Value → Prop := fun w v => ∃ g c, v = .slice (some ⟨g, 0, none⟩) hs.length c ∧ M ≤ g ∧ ORow 3 1 w g c hs.length (hs.map (Value.int .i64)) ∧ hs.length ≤ c ∧ c ≤ 9223372036854775807
def k7_l4Copy (M B R : Nat) (ws hs : List Int) (pw ph : Option Addr) (cw ch : Nat) : World → Value → Prop := fun w v => ∃ g c g' c', v = .agg #[.slice (some ⟨g, 0, none⟩) ws.length c, .slice (some ⟨g', 0, none⟩) hs.length c'] ∧ M ≤ g ∧ ORow 3 1 w g c ws.length (ws.map (Value.int .i64)) ∧ ws.length ≤ c ∧ c ≤ 9223372036854775807 ∧ M ≤ g' ∧ ORow 3 1 w g' c' hs.length (hs.map (Value.int .i64)) ∧ hs.length ≤ c' ∧ c' ≤ 9223372036854775807 ∧ (hs ≠ [] → g ≠ g')

def fl_l4Copy (M B R : Nat) (ws hs : List Int) (pw ph : Option Addr) (cw ch : Nat) : List Fact := [
  fIs 3 (.pointer (some ⟨B, 0, none⟩)),
  fIs 4 (.agg #[.slice pw ws.length cw]),
  ⟨[5, 9], [6], fun s d w => ∃ g c, s 5 = .agg #[.slice (some ⟨g, 0, none⟩) ws.length c] ∧ M ≤ g ∧ ORow 3 1 w g c ws.length (ws.map (Value.int .i64)) ∧ ws.length ≤ c ∧ c ≤ 9223372036854775807 ∧ (d 6 = true → hs ≠ [] → ∀ g' c', s 9 = .slice (some ⟨g', 0, none⟩) hs.length c' → g ≠ g')⟩,
  fK 6 (k3_l4Copy M B R ws hs pw ph cw ch),
  fIs 7 (.pointer (some ⟨B, 1, none⟩)),
  fIs 8 (.slice ph hs.length ch),
  fK 9 (k6_l4Copy M B R ws hs pw ph cw ch),
  fK 10 (k7_l4Copy M B R ws hs pw ph cw ch),
  ⟨[10], [], fun s _ w => ∃ cs, s 10 = .agg cs ∧ w.heap[R]? = some (.cells cs 45 (0, 0))⟩]

theorem st_l4Copy (M B R : Nat) (ws hs : List Int) (pw ph : Option Addr) (cw ch : Nat) : ∀ F ∈ fl_l4Copy M B R ws hs pw ph cw ch, F.Stab :=
  stab_cons (fIs_stab _ _) <|
  stab_cons (fIs_stab _ _) <|
  stab_cons (by rintro s d w w' hg ⟨g, c, h1, h2, h3, h4⟩; exact ⟨g, c, h1, h2, h3.gr hg, h4⟩) <|
  stab_cons (fK_stab (by rintro w w' v hg ⟨g, h1, h2, h3⟩; exact ⟨g, h1, h2, hg.cells h3⟩)) <|
  stab_cons (fIs_stab _ _) <|
  stab_cons (fIs_stab _ _) <|
  stab_cons (fK_stab (by rintro w w' v hg ⟨g, c, h1, h2, h3, h4⟩; exact ⟨g, c, h1, h2, h3.gr hg, h4⟩)) <|
  stab_cons (fK_stab (by rintro w w' v hg ⟨g, c, g', c', h1, h2, h3, h4, h5, h6, h7, h8⟩; exact ⟨g, c, g', c', h1, h2, h3.gr hg, h4, h5, h6, h7.gr hg, h8⟩)) <|
  stab_cons (by rintro s d w w' hg ⟨cs, h1, h2⟩; exact ⟨cs, h1, hg.cells h2⟩) stab_nil

theorem ktl_l4Copy (M B R : Nat) (ws hs : List Int) (pw ph : Option Addr) (cw ch : Nat) : ∀ j, [8].contains j = false → ∀ s d w w', KT 45 w w' → (factsOf (fl_l4Copy M B R ws hs pw ph cw ch) j).body s d w → (factsOf (fl_l4Copy M B R ws hs pw ph cw ch) j).body s d w' := by
  intro j hj s d w w' hk hb
  rcases j with _ | _ | _ | _ | _ | _ | _ | _ | _ | j
  · exact hb
  · exact hb
  · obtain ⟨g, c, h1, h2, h3, h4⟩ := hb
    exact ⟨g, c, h1, h2, h3.kt hk (by decide), h4⟩
  · obtain ⟨g, h1, h2, h3⟩ := hb
    exact ⟨g, h1, h2, hk.cells h3 (by decide)⟩
  · exact hb
  · exact hb
  · obtain ⟨g, c, h1, h2, h3, h4⟩ := hb
    exact ⟨g, c, h1, h2, h3.kt hk (by decide), h4⟩
  · obtain ⟨g, c, g', c', h1, h2, h3, h4, h5, h6, h7, h8⟩ := hb
    exact ⟨g, c, g', c', h1, h2, h3.kt hk (by decide), h4, h5, h6, h7.kt hk (by decide), h8⟩
  · simp at hj
  · trivial

theorem ask_l4Copy {M B R : Nat} {ws hs : List Int} {pw ph : Option Addr} {cw ch : Nat} (j : Nat) (hj : j < 9) (h : (factsOf (fl_l4Copy M B R ws hs pw ph cw ch) j).dones.contains 6 = true) : j = 2 := by
  rcases j with _ | _ | _ | _ | _ | _ | _ | _ | _ | j
  all_goals first | rfl | exact absurd (show false = true from h) (by decide) | omega

theorem asks8_l4Copy {M B R : Nat} {ws hs : List Int} {pw ph : Option Addr} {cw ch : Nat} (j : Nat) (hj : j < 9) (h : [8].contains j = true ∨ (factsOf (fl_l4Copy M B R ws hs pw ph cw ch) j).dones.contains 8 = true) : j = 8 := by
  rcases j with _ | _ | _ | _ | _ | _ | _ | _ | _ | j
  all_goals first | rfl | (rcases h with h | h <;> exact absurd (show false = true from h) (by decide)) | omega

set_option maxRecDepth 100000 in
set_option maxHeartbeats 2000000 in
theorem spec_l4Copy (s : Stt) (pw ph : Option Addr) (cw ch : Nat) (w : World) (h : StAt w s pw cw ph ch) (hlw : s.words.length ≤ 100000) (hlh : s.holds.length ≤ 100000) :
    Calls Try.prog 59 #[stV s pw cw ph ch] w fun e w' => ∃ g c g' c', e = .returned (stV s (some ⟨g, 0, none⟩) c (some ⟨g', 0, none⟩) c') ∧ ORow 3 1 w' g c s.words.length (s.words.map (Value.int .i64)) ∧ s.words.length ≤ c ∧ c ≤ 9223372036854775807 ∧ ORow 3 1 w' g' c' s.holds.length (s.holds.map (Value.int .i64)) ∧ s.holds.length ≤ c' ∧ c' ≤ 9223372036854775807 ∧ w.heap.size ≤ g ∧ w.heap.size ≤ g' ∧ (s.holds ≠ [] → g ≠ g') ∧ Below w.heap.size w w' := by
  obtain ⟨ws, hs⟩ := s
  have HA := Hid.intro h
  clear h
  simp only at hlw hlh
  unfold stV
  have hb2 : ∀ o o', Below w.heap.size w ((w.alloc o).alloc o') := fun o o' => ((Below.refl _ w).alloc (Nat.le_refl _) o).alloc (by simp) o'
  go_enter Try.func59, Try.ntmps59
  go_wp2_with fail
  obtain ⟨W0, hW0⟩ : ∃ W0, (w.alloc (.cells #[.slice pw ws.length cw, .slice ph hs.length ch] 45)).alloc (.cells #[.slice none 0 0, .slice none 0 0] 45) = W0 := ⟨_, rfl⟩
  have hs0 : W0.heap.size = w.heap.size + 2 := by rw [← hW0]; simp
  have hB0 : W0.heap[w.heap.size]? = some (.cells #[.slice pw ws.length cw, .slice ph hs.length ch] 45 (0, 0)) := by rw [← hW0]; exact (Below.heap_alloc _ _ _ (by simp)).trans (nw_at _ rfl)
  have hR0 : W0.heap[w.heap.size + 1]? = some (.cells #[.slice none 0 0, .slice none 0 0] 45 (0, 0)) := by rw [← hW0]; exact nw_at _ (by simp)
  have hbw : Below w.heap.size w W0 := by rw [← hW0]; exact hb2 _ _
  rw [hW0]
  clear hW0 hb2
  have hA0 := HA.out.below hbw
  have hBc : ∀ W, CB2 (w.heap.size + 1) 45 W0 W → W.heap[w.heap.size]? = some (.cells #[.slice pw ws.length cw, .slice ph hs.length ch] 45 (0, 0)) := fun W hC => (hC.kept.block _ (by omega) (by omega)).trans hB0
  have hCM : ∀ W, CB2 (w.heap.size + 1) 45 W0 W → w.heap.size + 2 ≤ W.heap.size := fun W hC => by have := hC.kept.size; omega
  have hCg : ∀ W W', CB2 (w.heap.size + 1) 45 W0 W → Gr W W' → CB2 (w.heap.size + 1) 45 W0 W' := fun W W' hC hg => hC.gr hg
  have hCs : ∀ W v0 v1, CB2 (w.heap.size + 1) 45 W0 W → CB2 (w.heap.size + 1) 45 W0 ((W.setCell ⟨w.heap.size + 1, 0, none⟩ v0).setCell ⟨w.heap.size + 1, 1, none⟩ v1) := fun W v0 v1 hC => hC.set v0 v1
  have hRc : ∀ W, CB2 (w.heap.size + 1) 45 W0 W → ∃ v0 v1, W.heap[w.heap.size + 1]? = some (.cells #[v0, v1] 45 (0, 0)) := fun W hC => hC.box
  have hWs : ∀ W, CB2 (w.heap.size + 1) 45 W0 W → IntsAt W pw ws := fun W hC => hC.ints hbw (by omega) HA.out.words
  have hHs : ∀ W, CB2 (w.heap.size + 1) 45 W0 W → IntsAt W ph hs := fun W hC => hC.ints hbw (by omega) HA.out.holds
  obtain ⟨R, hR⟩ : ∃ R, R = w.heap.size + 1 := ⟨_, rfl⟩
  obtain ⟨B, hB⟩ : ∃ B, B = w.heap.size := ⟨_, rfl⟩
  obtain ⟨M, hM⟩ : ∃ M, M = w.heap.size + 2 := ⟨_, rfl⟩
  rw [← hR] at hBc hCM hCg hCs hRc hWs hHs hR0 ⊢
  rw [← hM] at hCM
  rw [← hB] at hBc ⊢
  have hMw : w.heap.size ≤ M := by omega
  have hRw : w.heap.size ≤ R := by omega
  have hMR : R < M := by omega
  clear hB hR hM hB0
  refine wp_region_fl (by kernel_rfl) (fl_l4Copy M B R ws hs pw ph cw ch) (fun _ => CB2 R 45 W0) [3, 4, 5, 6, 7, 8, 9, 10] (by kernel_rfl) (by kernel_rfl) (by kernel_rfl) ?c0 ?looks ?done
  case looks =>
    intro hcl i o ho
    rcases i with _ | _ | _ | _ | _ | _ | _ | _ | _ | i
    · simp at ho; subst ho
      refine fo_det (st_l4Copy M B R ws hs pw ph cw ch) hcl rfl rfl rfl rfl (by kernel_rfl) (fun _ _ h => h) (fun done ρ W hat => ?_)
      have e1 : ρ (.tmp 1) = .pointer (some ⟨B, 0, none⟩) := hat.out 1 (by kernel_rfl)
      have hC := hat.cls
      have hc := hat.con
      simp only [execOp, e1]
      go_simp
    · simp at ho; subst ho
      refine fo_det (st_l4Copy M B R ws hs pw ph cw ch) hcl rfl rfl rfl rfl (by kernel_rfl) (fun _ _ h => h) (fun done ρ W hat => ?_)
      have e3 : ρ (.tmp 3) = .pointer (some ⟨B, 0, none⟩) := fIs_at (d := 3) (v := .pointer (some ⟨B, 0, none⟩)) (hat.fact 0 (by kernel_rfl))
      have hC := hat.cls
      have hx := hBc W hC
      have c0 : W.cell? ⟨B, 0, none⟩ = some (.slice pw ws.length cw) := heap_cell hx 0
      have hc := hat.con
      simp only [execOp, e3]
      go_simp
    · simp at ho; subst ho
      refine fo_grow (st_l4Copy M B R ws hs pw ph cw ch) hcl rfl rfl (fun done ρ W hat => ?_)
      have e4 : ρ (.tmp 4) = .agg #[.slice pw ws.length cw] := fIs_at (d := 4) (v := .agg #[.slice pw ws.length cw]) (hat.fact 1 (by kernel_rfl))
      have hC := hat.cls
      have hf := hat.fn
      refine up_call 89 #[.agg #[.slice pw ws.length cw]] (by simp only [execOp]; go_simp) ?_
      refine (spec_l2Copy pw cw ws W (hWs W hC) hlw).mono ?_
      rintro e W1 ⟨g, c, rfl, hO, hc1, hc2, hg, hb⟩
      refine ⟨_, rfl, hCg W W1 hC hb, hb, ⟨g, c, ?_, Nat.le_trans (hCM W hC) hg, hO, hc1, hc2, fun hd hne g' c' hs9 => ?_⟩, free_spec (by kernel_rfl) hat.lt⟩
      · exact rfl
      · have hd6 : done 6 = true := hd
        obtain ⟨g2, c2, k1, _, k3, _⟩ := (fK_at (d := 9) (K := k6_l4Copy M B R ws hs pw ph cw ch) (hat.all 6 hd6))
        have : ρ (.tmp 9) = .slice (some ⟨g', 0, none⟩) hs.length c' := hs9
        have hlt := k3.lt
        have k1' : ρ (.tmp 9) = _ := k1
        rw [k1'] at this
        cases this
        omega
    · simp at ho; subst ho
      refine fo_grow (st_l4Copy M B R ws hs pw ph cw ch) hcl rfl rfl (fun done ρ W hat => ?_)
      have hC := hat.cls
      refine up_val (.slice (some ⟨W.heap.size, 0, none⟩) 0 0) (W.alloc (.cells #[] 3)) (by simp only [execOp]; go_simp) ?_
      refine ⟨hCg W _ hC (below_nw _ _), below_nw _ _, fK_mk (K := k3_l4Copy M B R ws hs pw ph cw ch) ⟨W.heap.size, updV_same _ _ _, hCM W hC, nw_at _ rfl⟩, free_spec (by kernel_rfl) hat.lt⟩
    · simp at ho; subst ho
      refine fo_det (st_l4Copy M B R ws hs pw ph cw ch) hcl rfl rfl rfl rfl (by kernel_rfl) (fun _ _ h => h) (fun done ρ W hat => ?_)
      have e1 : ρ (.tmp 1) = .pointer (some ⟨B, 0, none⟩) := hat.out 1 (by kernel_rfl)
      have hC := hat.cls
      have hc := hat.con
      simp only [execOp, e1]
      go_simp
    · simp at ho; subst ho
      refine fo_det (st_l4Copy M B R ws hs pw ph cw ch) hcl rfl rfl rfl rfl (by kernel_rfl) (fun _ _ h => h) (fun done ρ W hat => ?_)
      have e7 : ρ (.tmp 7) = .pointer (some ⟨B, 1, none⟩) := fIs_at (d := 7) (v := .pointer (some ⟨B, 1, none⟩)) (hat.fact 4 (by kernel_rfl))
      have hC := hat.cls
      have hx := hBc W hC
      have c1 : W.cell? ⟨B, 1, none⟩ = some (.slice ph hs.length ch) := heap_cell hx 1
      have hc := hat.con
      simp only [execOp, e7]
      go_simp
    · simp at ho; subst ho
      refine fo_grow (st_l4Copy M B R ws hs pw ph cw ch) hcl rfl rfl (fun done ρ W hat => ?_)
      have e8 : ρ (.tmp 8) = .slice ph hs.length ch := fIs_at (d := 8) (v := .slice ph hs.length ch) (hat.fact 5 (by kernel_rfl))
      have hC := hat.cls
      obtain ⟨g, k1, k2, k3⟩ := (fK_at (d := 6) (K := k3_l4Copy M B R ws hs pw ph cw ch) (hat.fact 3 (by kernel_rfl)))
      refine ty_app_new rfl k1 k3 e8 (hHs W hC) hlh ?_
      intro g' c' W1 hO hc1 hc2 hge hgo hb
      refine ⟨hCg W W1 hC hb, hb, fK_mk (K := k6_l4Copy M B R ws hs pw ph cw ch) ⟨g', c', updV_same _ _ _, ?_, hO, hc1, hc2⟩, fun j hj hcj => ?_⟩
      · rcases hgo with rfl | h
        · exact k2
        · exact Nat.le_trans (hCM W hC) h
      · have hj2 : j = 2 := ask_l4Copy j (hat.lt j hj) hcj
        subst hj2
        obtain ⟨g2, c2, h1, h2, h3, h4, h5, h6⟩ := hat.all 2 hj
        refine ⟨g2, c2, ?_, h2, h3.gr hb, h4, h5, fun _ hne g3 c3 hs9 => ?_⟩
        · exact h1
        · have : Value.slice (some ⟨g', 0, none⟩) hs.length c' = Value.slice (some ⟨g3, 0, none⟩) hs.length c3 := hs9
          cases this
          have := hge hne
          have := h3.lt
          omega
    · simp at ho; subst ho
      refine fo_grow (st_l4Copy M B R ws hs pw ph cw ch) hcl rfl rfl (fun done ρ W hat => ?_)
      have hC := hat.cls
      obtain ⟨g, c, h1, h2, h3, h4, h5, h6⟩ := hat.fact 2 (by kernel_rfl)
      obtain ⟨g', c', k1, k2, k3, k4, k5⟩ := (fK_at (d := 9) (K := k6_l4Copy M B R ws hs pw ph cw ch) (hat.fact 6 (by kernel_rfl)))
      have h1' : ρ (.tmp 5) = .agg #[.slice (some ⟨g, 0, none⟩) ws.length c] := h1
      refine up_val (.agg #[.slice (some ⟨g, 0, none⟩) ws.length c, .slice (some ⟨g', 0, none⟩) hs.length c']) W (by simp only [execOp]; go_simp) ?_
      refine ⟨hC, Gr.refl _, fK_mk (K := k7_l4Copy M B R ws hs pw ph cw ch) ⟨g, c, g', c', updV_same _ _ _, h2, h3, h4, h5, k2, k3, k4, k5, fun hne => ?_⟩, free_spec (by kernel_rfl) hat.lt⟩
      exact h6 (show done 6 = true from hat.dn 6 (by kernel_rfl)) hne g' c' k1
    · simp at ho; subst ho
      refine fo_rel (S := KT 45) (E := [8]) (ktl_l4Copy M B R ws hs pw ph cw ch) hcl rfl rfl (fun done ρ W hat => ?_)
      have e2 : ρ (.tmp 2) = .pointer (some ⟨R, 0, none⟩) := hat.out 2 (by kernel_rfl)
      have hC := hat.cls
      obtain ⟨g, c, g', c', k1, _⟩ := (fK_at (d := 10) (K := k7_l4Copy M B R ws hs pw ph cw ch) (hat.fact 7 (by kernel_rfl)))
      obtain ⟨v0, v1, hR⟩ := hRc W hC
      have r0 := (heap_cell hR 0).trans rfl
      have r1 := (heap_cell hR 1).trans rfl
      have f0 := heap_free hR 0
      have f1 := heap_free hR 1
      refine up_skip ((W.setCell ⟨R, 0, none⟩ (.slice (some ⟨g, 0, none⟩) ws.length c)).setCell ⟨R, 1, none⟩ (.slice (some ⟨g', 0, none⟩) hs.length c')) (by simp only [execOp]; go_simp) ?_
      have hR1 := heap_set hR 0 (.slice (some ⟨g, 0, none⟩) ws.length c)
      refine ⟨hCs W _ _ hC, (KT.set hR _).trans (KT.set hR1 _), ⟨_, k1, (heap_set hR1 1 _).trans rfl⟩, fun j hj hcj => ?_⟩
      have hj8 : j = 8 := asks8_l4Copy j (hat.lt j hj) hcj
      subst hj8
      have := hat.new
      rw [hj] at this; cases this
    · simp at ho
  case c0 => exact ⟨Kept.drew _ _, _, _, hR0⟩
  case done =>
    intro f W hC hf hout
    obtain ⟨g, c, g', c', k1, k2, k3, k4, k5, k6, k7, k8, k9, k10⟩ := fK_at (d := 10) (K := k7_l4Copy M B R ws hs pw ph cw ch) (hf 7 (by decide))
    obtain ⟨cs, h1, h2⟩ := hf 8 (by decide)
    have h1' : f 10 = .agg cs := h1
    have k1' : f 10 = _ := k1
    rw [k1'] at h1'
    cases h1'
    have r0 : W.cell? ⟨R, 0, none⟩ = some (.slice (some ⟨g, 0, none⟩) ws.length c) := heap_cell h2 0
    have r1 : W.cell? ⟨R, 1, none⟩ = some (.slice (some ⟨g', 0, none⟩) hs.length c') := heap_cell h2 1
    simp only [fill]
    go_simp
    go_wp2
    refine bodyPost_ret (v := .agg #[.slice (some ⟨g, 0, none⟩) ws.length c, .slice (some ⟨g', 0, none⟩) hs.length c']) (by simp [results, Try.results59, go_sem, r0, r1]) rfl ⟨g, c, g', c', rfl, k3, k4, k5, k7, k8, k9, by omega, by omega, k10, ?_⟩
    exact hbw.trans ⟨hC.kept.os, hC.kept.tape, hC.kept.output, hC.kept.size, fun k hk => hC.kept.block k (by omega) (by omega)⟩

end Go.Proofs.Ytlifkfemdknndaa

/-
  l2Get of the model: the words of addresses.
-/
namespace Go.Proofs.Ytlifkfemdknndaa
open Go.RowKit
set_option linter.unusedSimpArgs false
set_option linter.unusedVariables false

def k10_l2Get (M B bp op bq oq k g cw cap lq cq a y : Nat) (lw : Nat) (x : Int) (ys : List Int) : World → Value → Prop := fun w v => ∃ g' c', v = .slice (some ⟨g', 0, none⟩) (ys ++ [x]).length c' ∧ ORow 3 1 w g' c' (ys ++ [x]).length ((ys ++ [x]).map (Value.int .i64)) ∧ c' ≤ 9223372036854775807 ∧ M ≤ g'
def k11_l2Get (M B bp op bq oq k g cw cap lq cq a y : Nat) (lw : Nat) (x : Int) (ys : List Int) : World → Value → Prop := fun w v => ∃ g' c', v = .slice (some ⟨g', 0, none⟩) (ys ++ [x]).length c' ∧ ORow 3 1 w g' c' (ys ++ [x]).length ((ys ++ [x]).map (Value.int .i64)) ∧ c' ≤ 9223372036854775807 ∧ M ≤ g'

def fl_l2Get (M B bp op bq oq k g cw cap lq cq a y : Nat) (lw : Nat) (x : Int) (ys : List Int) : List Fact := [
  fIs 14 (.slice (some ⟨g, 0, none⟩) ys.length cap),
  fIs 15 (.pointer (some ⟨B, 0, none⟩)),
  fIs 16 (.slice (some ⟨bp, op, none⟩) lw cw),
  fIs 17 (.slice (some ⟨bq, oq, none⟩) lq cq),
  fIs 18 (.int .i64 (k : Int)),
  fIs 19 (.pointer (some ⟨bq, oq + k, none⟩)),
  fIs 20 (.int .i64 (a : Int)),
  fIs 21 (.pointer (some ⟨bp, op + a, none⟩)),
  fIs 22 (.int .i64 x),
  ⟨[23], [10], fun s d w => d 10 = false → ∃ b, s 23 = .slice (some ⟨b, 0, none⟩) 1 1 ∧ w.heap[b]? = some (.cells #[.int .i64 x] 3 (0, 0))⟩,
  fK 24 (k10_l2Get M B bp op bq oq k g cw cap lq cq a y lw x ys),
  fK 5 (k11_l2Get M B bp op bq oq k g cw cap lq cq a y lw x ys)]

theorem st_l2Get (M B bp op bq oq k g cw cap lq cq a y : Nat) (lw : Nat) (x : Int) (ys : List Int) : ∀ F ∈ fl_l2Get M B bp op bq oq k g cw cap lq cq a y lw x ys, F.Stab :=
  stab_cons (fIs_stab _ _) <|
  stab_cons (fIs_stab _ _) <|
  stab_cons (fIs_stab _ _) <|
  stab_cons (fIs_stab _ _) <|
  stab_cons (fIs_stab _ _) <|
  stab_cons (fIs_stab _ _) <|
  stab_cons (fIs_stab _ _) <|
  stab_cons (fIs_stab _ _) <|
  stab_cons (fIs_stab _ _) <|
  stab_cons (by intro s d w w' hg h hd; obtain ⟨b, h1, h2⟩ := h hd; exact ⟨b, h1, hg.cells h2⟩) <|
  stab_cons (fK_stab (by rintro w w' v hg ⟨g', c', h1, h2, h3⟩; exact ⟨g', c', h1, h2.gr hg, h3⟩)) <|
  stab_cons (fK_stab (by rintro w w' v hg ⟨g', c', h1, h2, h3⟩; exact ⟨g', c', h1, h2.gr hg, h3⟩)) stab_nil

theorem grl_l2Get (M B bp op bq oq k g cw cap lq cq a y : Nat) (lw : Nat) (x : Int) (ys : List Int) : ∀ j, [9, 10, 11].contains j = false → ∀ s d w w', Grew w w' g → (factsOf (fl_l2Get M B bp op bq oq k g cw cap lq cq a y lw x ys) j).body s d w → (factsOf (fl_l2Get M B bp op bq oq k g cw cap lq cq a y lw x ys) j).body s d w' := by
  intro j hj s d w w' hk hb
  rcases j with _ | _ | _ | _ | _ | _ | _ | _ | _ | _ | _ | _ | j
  all_goals first | exact hb | (exfalso; revert hj; decide) | trivial

theorem ask9_l2Get {M B bp op bq oq k g cw cap lq cq a y lw : Nat} {x : Int} {ys : List Int} (j : Nat) (hj : j < 12) (h : (factsOf (fl_l2Get M B bp op bq oq k g cw cap lq cq a y lw x ys) j).dones.contains 9 = true) : j = 9 := by
  rcases j with _ | _ | _ | _ | _ | _ | _ | _ | _ | _ | _ | _ | j
  all_goals first | rfl | exact absurd (show false = true from h) (by decide) | omega

theorem asks_l2Get {M B bp op bq oq k g cw cap lq cq a y lw : Nat} {x : Int} {ys : List Int} (j : Nat) (hj : j < 12) (h : [9, 10, 11].contains j = true ∨ (factsOf (fl_l2Get M B bp op bq oq k g cw cap lq cq a y lw x ys) j).dones.contains 10 = true) : j = 9 ∨ j = 10 ∨ j = 11 := by
  rcases j with _ | _ | _ | _ | _ | _ | _ | _ | _ | _ | _ | _ | j
  all_goals first | (rcases h with h | h <;> exact absurd (show false = true from h) (by decide)) | omega

theorem getAll_step (ws all : List Int) (k : Nat) (h : k < all.length) : getAll ws (all.take (k + 1)) = getAll ws (all.take k) ++ [getZ ws all[k]] := by
  rw [List.take_succ_eq_append_getElem h]
  unfold getAll
  rw [List.map_append]
  rfl
theorem getZ_get {ws : List Int} {a : Nat} (h : a < ws.length) : getZ ws (a : Int) = ws[a] := by simp [getZ, h]

set_option maxRecDepth 100000 in
set_option maxHeartbeats 2000000 in
theorem spec_l2Get (p : Option Addr) (cw : Nat) (ws : List Int) (q : Option Addr) (cq : Nat) (all : List Int) (w : World) (hp : IntsAt w p ws) (hq : IntsAt w q all) (hl : all.length ≤ 1000) (ha : ∀ a ∈ all, 0 ≤ a ∧ a < (ws.length : Int)) :
    Calls Try.prog 86 #[.agg #[.slice p ws.length cw], .slice q all.length cq] w fun e w' => ∃ g c, e = .returned (.slice (some ⟨g, 0, none⟩) (getAll ws all).length c) ∧ ORow 3 1 w' g c (getAll ws all).length ((getAll ws all).map (Value.int .i64)) ∧ (getAll ws all).length ≤ c ∧ c ≤ 9223372036854775807 ∧ w.heap.size ≤ g ∧ Below w.heap.size w w' := by
  have HP := Hid.intro hp
  have HQ := Hid.intro hq
  have HA := Hid.intro ha
  clear hp hq ha
  have hb2 : ∀ o o', Below w.heap.size w ((w.alloc o).alloc o') := fun o o' => ((Below.refl _ w).alloc (Nat.le_refl _) o).alloc (by simp) o'
  go_enter Try.func86, Try.ntmps86
  go_wp2_with fail
  go_loopw [5, 6] (fun v i wr => ∃ (k g c : Nat), k ≤ all.length ∧ i = .int .i64 k ∧ v = .slice (some ⟨g, 0, none⟩) (getAll ws (all.take k)).length c ∧ Hid (ORow 3 1 wr g c (getAll ws (all.take k)).length ((getAll ws (all.take k)).map (Value.int .i64))) ∧ c ≤ 9223372036854775807 ∧ w.heap.size + 1 ≤ g ∧ Hid (Below w.heap.size w wr) ∧ wr.heap[w.heap.size]? = some (.cells #[.slice p ws.length cw] 43 (0, 0))) (fun _ i _ => all.length - (intOf i).toNat)
  case atStart =>
    refine ⟨0, w.heap.size + 1, 0, Nat.zero_le _, rfl, rfl, ⟨#[], nw_at _ (by simp), rfl, Nat.le_refl _, rfl, rfl⟩, by omega, Nat.le_refl _, hb2 _ _, (Below.heap_alloc _ _ _ (by simp)).trans (nw_at _ rfl)⟩
  case round =>
    obtain ⟨k, g, c, hk, rfl, rfl, HO, hc, hg, HB, hbox⟩ := hrel
    by_cases hlt : k < all.length
    · rcases HQ.out with hx | ⟨bq, oq, rfl, hbq, hcq⟩
      · subst hx; simp at hlt
      obtain ⟨ha0, ha1⟩ := HA.out all[k] (List.getElem_mem hlt)
      obtain ⟨a, haE⟩ := Int.eq_ofNat_of_zero_le ha0
      have hal : a < ws.length := by omega
      rcases HP.out with hx | ⟨bp, op, rfl, hbp, hcp⟩
      · subst hx; simp at hal
      have hk0 : (0 : Int) ≤ (k : Int) := by omega
      have hk1 : (k : Int) < (all.length : Int) := by omega
      have hcq1 := hcq k hlt
      rw [haE] at hcq1
      have hcp1 := hcp a hal
      have HST := Hid.intro (getAll_step ws all k hlt)
      rw [haE, getZ_get hal] at HST
      clear hcq hcp HP HQ
      obtain ⟨x, hx⟩ : ∃ x, x = ws[a] := ⟨_, rfl⟩
      rw [← hx] at hcp1 HST
      clear hx
      have hyl : (getAll ws (all.take k)).length ≤ 1000 := by rw [getAll_len]; simp; omega
      obtain ⟨ys, hys⟩ : ∃ ys, ys = getAll ws (all.take k) := ⟨_, rfl⟩
      rw [← hys] at HO HST hyl ⊢
      clear hys
      have hbx := hbox
      obtain ⟨M, hM⟩ : ∃ M, M = w.heap.size + 1 := ⟨_, rfl⟩
      have hwl := HB.out.size
      have hBl : w.heap.size < M := by omega
      have hMl : M ≤ wr.heap.size := by have := heap_lt hbox; omega
      have hMg : M ≤ g := by omega
      have hbqM : bq < M := by omega
      have hbpM : bp < M := by omega
      have cq1 : wr.cell? ⟨bq, oq + k, none⟩ = some (.int .i64 (a : Int)) := (HB.out.cell (p := ⟨bq, oq + k, none⟩) hbq).trans hcq1
      have cp1 : wr.cell? ⟨bp, op + a, none⟩ = some (.int .i64 x) := (HB.out.cell (p := ⟨bp, op + a, none⟩) hbp).trans hcp1
      have hkB : ∀ W, Below M wr W → W.cell? ⟨w.heap.size, 0, none⟩ = some (.slice (some ⟨bp, op, none⟩) ws.length cw) := fun W h => (h.cell (p := ⟨w.heap.size, 0, none⟩) hBl).trans (heap_cell hbx 0)
      have hkq : ∀ W, Below M wr W → W.cell? ⟨bq, oq + k, none⟩ = some (.int .i64 (a : Int)) := fun W h => (h.cell (p := ⟨bq, oq + k, none⟩) hbqM).trans cq1
      have hkp : ∀ W, Below M wr W → W.cell? ⟨bp, op + a, none⟩ = some (.int .i64 x) := fun W h => (h.cell (p := ⟨bp, op + a, none⟩) hbpM).trans cp1
      have hCM : ∀ W, Below M wr W → M ≤ W.heap.size := fun W h => Nat.le_trans hMl h.size
      have hCg : ∀ W W', Below M wr W → Gr W W' → Below M wr W' := fun W W' h hg => h.trans (hg.mono (hCM W h))
      have hCs : ∀ W W', Below M wr W → Grew W W' g → Below M wr W' := fun W W' h hg => h.trans ⟨hg.os, hg.tape, hg.output, hg.size, fun i hi => hg.block i (by have := hCM W h; omega) (by omega)⟩
      have hcap : c ≤ maxLen := hc
      have hylen : ys.length ≤ 1000 := hyl
      have hak : (0 : Int) ≤ (a : Int) := by omega
      have hak1 : (a : Int) < (ws.length : Int) := by omega
      have HBW := Hid.intro (fun W (h : Below M wr W) => HB.out.trans (h.mono (show w.heap.size ≤ M by omega)))
      have hOr := HO.out
      have hbM : ∀ W, Below M wr W → W.heap[w.heap.size]? = some (.cells #[.slice (some ⟨bp, op, none⟩) ws.length cw] 43 (0, 0)) := fun W h => (h.block w.heap.size (by omega)).trans hbox
      have HBM := Hid.intro hbM
      clear hbM HO hcq1 hcp1 cq1 cp1 hbox hbx HB hb2 HA
      have hMw : w.heap.size + 1 ≤ M := by omega
      clear hM
      go_wp2_with fail
      refine wp_region_fl (by kernel_rfl) (fl_l2Get M w.heap.size bp op bq oq k g cw c all.length cq a 0 ws.length x ys) (fun d W => Below M wr W ∧ (d 10 = false → ORow 3 1 W g c ys.length (ys.map (Value.int .i64)))) [14, 15, 16, 17, 18, 19, 20, 21, 22, 23, 24, 5] (by kernel_rfl) (by kernel_rfl) (by kernel_rfl) ?c0 ?looks ?done
      case looks =>
        intro hcl i o ho
        rcases i with _ | _ | _ | _ | _ | _ | _ | _ | _ | _ | _ | _ | i
        · simp at ho; subst ho
          refine fo_det (st_l2Get M w.heap.size bp op bq oq k g cw c all.length cq a 0 ws.length x ys) hcl rfl rfl rfl rfl (by kernel_rfl) (fun _ _ h => h) (fun done ρ W hat => ?_)
          have e5 : ρ (.tmp 5) = .slice (some ⟨g, 0, none⟩) ys.length c := hat.oldB 5 (by kernel_rfl)
          have hC := hat.cls
          have hc := hat.con
          simp only [execOp, e5]
          go_simp
        · simp at ho; subst ho
          refine fo_det (st_l2Get M w.heap.size bp op bq oq k g cw c all.length cq a 0 ws.length x ys) hcl rfl rfl rfl rfl (by kernel_rfl) (fun _ _ h => h) (fun done ρ W hat => ?_)
          have e2 : ρ (.tmp 2) = .pointer (some ⟨w.heap.size, 0, none⟩) := hat.out 2 (by kernel_rfl)
          have hC := hat.cls
          have hc := hat.con
          simp only [execOp, e2]
          go_simp
        · simp at ho; subst ho
          refine fo_det (st_l2Get M w.heap.size bp op bq oq k g cw c all.length cq a 0 ws.length x ys) hcl rfl rfl rfl rfl (by kernel_rfl) (fun _ _ h => h) (fun done ρ W hat => ?_)
          have e15 : ρ (.tmp 15) = .pointer (some ⟨w.heap.size, 0, none⟩) := fIs_at (d := 15) (v := .pointer (some ⟨w.heap.size, 0, none⟩)) (hat.fact 1 (by kernel_rfl))
          have hC := hat.cls
          have c0 := hkB W hC.1
          have hc := hat.con
          simp only [execOp, e15]
          go_simp
        · simp at ho; subst ho
          refine fo_det (st_l2Get M w.heap.size bp op bq oq k g cw c all.length cq a 0 ws.length x ys) hcl rfl rfl rfl rfl (by kernel_rfl) (fun _ _ h => h) (fun done ρ W hat => ?_)
          have e1 : ρ (.tmp 1) = .slice (some ⟨bq, oq, none⟩) all.length cq := hat.out 1 (by kernel_rfl)
          have hC := hat.cls
          have hc := hat.con
          simp only [execOp, e1]
          go_simp
        · simp at ho; subst ho
          refine fo_det (st_l2Get M w.heap.size bp op bq oq k g cw c all.length cq a 0 ws.length x ys) hcl rfl rfl rfl rfl (by kernel_rfl) (fun _ _ h => h) (fun done ρ W hat => ?_)
          have e6 : ρ (.tmp 6) = .int .i64 (k : Int) := hat.out 6 (by kernel_rfl)
          have hC := hat.cls
          have hc := hat.con
          simp only [execOp, e6]
          go_simp
        · simp at ho; subst ho
          refine fo_det (st_l2Get M w.heap.size bp op bq oq k g cw c all.length cq a 0 ws.length x ys) hcl rfl rfl rfl rfl (by kernel_rfl) (fun _ _ h => h) (fun done ρ W hat => ?_)
          have e17 : ρ (.tmp 17) = .slice (some ⟨bq, oq, none⟩) all.length cq := fIs_at (d := 17) (v := .slice (some ⟨bq, oq, none⟩) all.length cq) (hat.fact 3 (by kernel_rfl))
          have e18 : ρ (.tmp 18) = .int .i64 (k : Int) := fIs_at (d := 18) (v := .int .i64 (k : Int)) (hat.fact 4 (by kernel_rfl))
          have hC := hat.cls
          have hc := hat.con
          simp only [execOp, e17, e18]
          go_simp
        · simp at ho; subst ho
          refine fo_det (st_l2Get M w.heap.size bp op bq oq k g cw c all.length cq a 0 ws.length x ys) hcl rfl rfl rfl rfl (by kernel_rfl) (fun _ _ h => h) (fun done ρ W hat => ?_)
          have e19 : ρ (.tmp 19) = .pointer (some ⟨bq, oq + k, none⟩) := fIs_at (d := 19) (v := .pointer (some ⟨bq, oq + k, none⟩)) (hat.fact 5 (by kernel_rfl))
          have hC := hat.cls
          have c1 := hkq W hC.1
          have hc := hat.con
          simp only [execOp, e19]
          go_simp
        · simp at ho; subst ho
          refine fo_det (st_l2Get M w.heap.size bp op bq oq k g cw c all.length cq a 0 ws.length x ys) hcl rfl rfl rfl rfl (by kernel_rfl) (fun _ _ h => h) (fun done ρ W hat => ?_)
          have e16 : ρ (.tmp 16) = .slice (some ⟨bp, op, none⟩) ws.length cw := fIs_at (d := 16) (v := .slice (some ⟨bp, op, none⟩) ws.length cw) (hat.fact 2 (by kernel_rfl))
          have e20 : ρ (.tmp 20) = .int .i64 (a : Int) := fIs_at (d := 20) (v := .int .i64 (a : Int)) (hat.fact 6 (by kernel_rfl))
          have hC := hat.cls
          have hc := hat.con
          simp only [execOp, e16, e20]
          go_simp
        · simp at ho; subst ho
          refine fo_det (st_l2Get M w.heap.size bp op bq oq k g cw c all.length cq a 0 ws.length x ys) hcl rfl rfl rfl rfl (by kernel_rfl) (fun _ _ h => h) (fun done ρ W hat => ?_)
          have e21 : ρ (.tmp 21) = .pointer (some ⟨bp, op + a, none⟩) := fIs_at (d := 21) (v := .pointer (some ⟨bp, op + a, none⟩)) (hat.fact 7 (by kernel_rfl))
          have hC := hat.cls
          have c2 := hkp W hC.1
          have hc := hat.con
          simp only [execOp, e21]
          go_simp
        · simp at ho; subst ho
          refine fo_grow (st_l2Get M w.heap.size bp op bq oq k g cw c all.length cq a 0 ws.length x ys) hcl rfl rfl (fun done ρ W hat => ?_)
          have e22 : ρ (.tmp 22) = .int .i64 x := fIs_at (d := 22) (v := .int .i64 x) (hat.fact 8 (by kernel_rfl))
          have hC := hat.cls
          refine up_val (.slice (some ⟨W.heap.size, 0, none⟩) 1 1) (W.alloc (.cells #[.int .i64 x] 3)) (by simp only [execOp]; go_simp) ?_
          refine ⟨⟨hCg W _ hC.1 (below_nw _ _), fun h => (hC.2 h).gr (below_nw _ _)⟩, below_nw _ _, fun _ => ⟨W.heap.size, rfl, nw_at _ rfl⟩, fun j hj hcj => ?_⟩
          have h10 : j = 9 := ask9_l2Get j (hat.lt j hj) hcj
          subst h10; have := hat.new; rw [hj] at this; cases this
        · simp at ho; subst ho
          refine fo_rel (S := fun w w' => Grew w w' g) (E := [9, 10, 11]) (grl_l2Get M w.heap.size bp op bq oq k g cw c all.length cq a 0 ws.length x ys) hcl rfl rfl (fun done ρ W hat => ?_)
          have e14 : ρ (.tmp 14) = .slice (some ⟨g, 0, none⟩) ys.length c := fIs_at (d := 14) (v := .slice (some ⟨g, 0, none⟩) ys.length c) (hat.fact 0 (by kernel_rfl))
          have hC := hat.cls
          obtain ⟨b, k1, k2⟩ := (hat.fact 9 (by kernel_rfl)) (show done 10 = false from hat.new)
          have k1' : ρ (.tmp 23) = .slice (some ⟨b, 0, none⟩) 1 1 := k1
          refine ty_app_some ys [x] rfl e14 (hC.2 hat.new) hcap k1' (.inr ⟨b, 0, rfl, heap_lt k2, fun i hi => by simp at hi; subst hi; exact heap_cell k2 0⟩) (by simp; omega) ?_
          rintro v W1 ⟨g', c', hv, hO, hc1, hc2, hgo, hgr⟩
          refine ⟨⟨hCs W W1 hC.1 hgr, fun h => absurd (show true = false from h) (by decide)⟩, hgr, fK_mk (K := k10_l2Get M w.heap.size bp op bq oq k g cw c all.length cq a 0 ws.length x ys) ⟨g', c', (updV_same _ _ _).trans hv, hO, hc2, ?_⟩, fun j hj hcj => ?_⟩
          · rcases hgo with rfl | h
            · exact hMg
            · exact Nat.le_trans (hCM W hC.1) h
          · rcases asks_l2Get j (hat.lt j hj) hcj with rfl | rfl | rfl
            · intro hd; exact absurd (show true = false from hd) (by decide)
            · have := hat.new; rw [hj] at this; cases this
            · have hcl2 := hat.clos 11 _ hj rfl ⟨10, .data⟩ (by simp) rfl
              have := hat.new; rw [hcl2] at this; cases this
        · simp at ho; subst ho
          refine fo_grow (st_l2Get M w.heap.size bp op bq oq k g cw c all.length cq a 0 ws.length x ys) hcl rfl rfl (fun done ρ W hat => ?_)
          have hC := hat.cls
          have kk := (fK_at (d := 24) (K := k10_l2Get M w.heap.size bp op bq oq k g cw c all.length cq a 0 ws.length x ys) (hat.fact 10 (by kernel_rfl)))
          refine up_val (ρ (.tmp 24)) W (by simp only [execOp]; rfl) ?_
          refine ⟨hC, Gr.refl _, fK_mk (K := k11_l2Get M w.heap.size bp op bq oq k g cw c all.length cq a 0 ws.length x ys) ?_, free_spec (by kernel_rfl) hat.lt⟩
          rw [updV_same]; exact kk
        · simp at ho
      case c0 => exact ⟨(Below.refl _ _).drew, fun _ => hOr⟩
      case done =>
        intro f W hC hf hout
        obtain ⟨g', c', k1, k2, k3, k4⟩ := fK_at (d := 5) (K := k11_l2Get M w.heap.size bp op bq oq k g cw c all.length cq a 0 ws.length x ys) (hf 11 (by decide))
        have k1' : f 5 = _ := k1
        have e6 : f 6 = _ := hout 6 (by kernel_rfl)
        simp only [fill, k1']
        go_simp
        go_wp2
        go_roundw
        case rel =>
          refine ⟨k + 1, g', c', by omega, by go_num, by rw [HST.out]; simp, ?_, k3, by omega, HBW.out W hC.1, HBM.out W hC.1⟩
          show ORow _ _ _ _ _ _ _
          rw [HST.out]; exact k2
        case measure => simp [intOf]; omega
    · have hke : k = all.length := by omega
      subst hke
      rw [List.take_length] at HO ⊢
      have hcl : (getAll ws all).length ≤ c := by obtain ⟨_, _, _, h, _⟩ := HO.out; exact h
      have hk1 : ¬ ((all.length : Nat) : Int) < ((all.length : Nat) : Int) := by omega
      go_wp2
      go_ret
      exact ⟨g, c, rfl, HO.out, hcl, hc, by omega, HB.out⟩

end Go.Proofs.Ytlifkfemdknndaa

namespace Go.Proofs.Ytlifkfemdknndaa
open Go.RowKit
set_option linter.unusedSimpArgs false
set_option linter.unusedVariables false

theorem ORow.free {E s : Nat} {w : World} {b cap n : Nat} {cs : List Value} (h : ORow E s w b cap n cs) (i : Nat) : w.frozen? ⟨b, i, none⟩ = false := by
  obtain ⟨cur, h1, _⟩ := h
  simp [World.frozen?, h1]

def fl_l2Put (B g lw cw bq oq lq cq bd od ld cd bl ol ll cl k a : Nat) (o d l : Int) (new : List Int) : List Fact := [
  fIs 16 (.pointer (some ⟨B, 0, none⟩)),
  fIs 17 (.slice (some ⟨g, 0, none⟩) lw cw),
  fIs 18 (.slice (some ⟨bq, oq, none⟩) lq cq),
  fIs 19 (.int .i64 (k : Int)),
  fIs 20 (.pointer (some ⟨bq, oq + k, none⟩)),
  fIs 21 (.int .i64 (a : Int)),
  fIs 22 (.pointer (some ⟨B, 0, none⟩)),
  fIs 23 (.slice (some ⟨g, 0, none⟩) lw cw),
  fIs 24 (.slice (some ⟨bq, oq, none⟩) lq cq),
  fIs 25 (.int .i64 (k : Int)),
  fIs 26 (.pointer (some ⟨bq, oq + k, none⟩)),
  fIs 27 (.int .i64 (a : Int)),
  fIs 28 (.pointer (some ⟨g, a, none⟩)),
  fIs 29 (.int .i64 o),
  fIs 30 (.slice (some ⟨bd, od, none⟩) ld cd),
  fIs 31 (.int .i64 (k : Int)),
  fIs 32 (.pointer (some ⟨bd, od + k, none⟩)),
  fIs 33 (.int .i64 d),
  fIs 34 (.slice (some ⟨bl, ol, none⟩) ll cl),
  fIs 35 (.int .i64 (k : Int)),
  fIs 36 (.pointer (some ⟨bl, ol + k, none⟩)),
  fIs 37 (.int .i64 l),
  fIs 38 (.int .i64 (wrdPutZ o d l)),
  fIs 39 (.pointer (some ⟨g, a, none⟩)),
  ⟨[], [], fun _ _ w => ORow 3 1 w g cw lw (new.map (Value.int .i64))⟩]

theorem st_l2Put (B g lw cw bq oq lq cq bd od ld cd bl ol ll cl k a : Nat) (o d l : Int) (new : List Int) : ∀ F ∈ fl_l2Put B g lw cw bq oq lq cq bd od ld cd bl ol ll cl k a o d l new, F.Stab :=
  stab_cons (fIs_stab _ _) <|
  stab_cons (fIs_stab _ _) <|
  stab_cons (fIs_stab _ _) <|
  stab_cons (fIs_stab _ _) <|
  stab_cons (fIs_stab _ _) <|
  stab_cons (fIs_stab _ _) <|
  stab_cons (fIs_stab _ _) <|
  stab_cons (fIs_stab _ _) <|
  stab_cons (fIs_stab _ _) <|
  stab_cons (fIs_stab _ _) <|
  stab_cons (fIs_stab _ _) <|
  stab_cons (fIs_stab _ _) <|
  stab_cons (fIs_stab _ _) <|
  stab_cons (fIs_stab _ _) <|
  stab_cons (fIs_stab _ _) <|
  stab_cons (fIs_stab _ _) <|
  stab_cons (fIs_stab _ _) <|
  stab_cons (fIs_stab _ _) <|
  stab_cons (fIs_stab _ _) <|
  stab_cons (fIs_stab _ _) <|
  stab_cons (fIs_stab _ _) <|
  stab_cons (fIs_stab _ _) <|
  stab_cons (fIs_stab _ _) <|
  stab_cons (fIs_stab _ _) <|
  stab_cons (by intro s d w w' hg h; exact h.gr hg) stab_nil

theorem any_l2Put (B g lw cw bq oq lq cq bd od ld cd bl ol ll cl k a : Nat) (o d l : Int) (new : List Int) : ∀ j, [24].contains j = false → ∀ s dn w w', True → (factsOf (fl_l2Put B g lw cw bq oq lq cq bd od ld cd bl ol ll cl k a o d l new) j).body s dn w → (factsOf (fl_l2Put B g lw cw bq oq lq cq bd od ld cd bl ol ll cl k a o d l new) j).body s dn w' := by
  intro j hj s dn w w' _ hb
  rcases j with _ | _ | _ | _ | _ | _ | _ | _ | _ | _ | _ | _ | _ | _ | _ | _ | _ | _ | _ | _ | _ | _ | _ | _ | _ | j
  all_goals first | exact hb | (exfalso; revert hj; decide) | trivial

theorem ask_l2Put {B g lw cw bq oq lq cq bd od ld cd bl ol ll cl k a : Nat} {o d l : Int} {new : List Int} (j : Nat) (hj : j < 25) (h : [24].contains j = true ∨ (factsOf (fl_l2Put B g lw cw bq oq lq cq bd od ld cd bl ol ll cl k a o d l new) j).dones.contains 24 = true) : j = 24 := by
  rcases j with _ | _ | _ | _ | _ | _ | _ | _ | _ | _ | _ | _ | _ | _ | _ | _ | _ | _ | _ | _ | _ | _ | _ | _ | _ | j
  all_goals first | (rcases h with h | h <;> exact absurd (show false = true from h) (by decide)) | omega

/-- a row of ints that is not block g -/
def Off (g : Nat) (p : Option Addr) (l : List Int) : Prop := l = [] ∨ ∀ b off, p = some ⟨b, off, none⟩ → b ≠ g

set_option maxRecDepth 100000 in
set_option maxHeartbeats 2000000 in
theorem spec_l2Put (g cw : Nat) (ws : List Int) (q : Option Addr) (cq : Nat) (all : List Int) (pd : Option Addr) (cd : Nat) (data : List Int) (pl : Option Addr) (cl : Nat) (lanes : List Int) (w : World)
    (hg : ORow 3 1 w g cw ws.length (ws.map (Value.int .i64))) (hq : IntsAt w q all) (hqg : Off g q all) (hd : IntsAt w pd data) (hdg : Off g pd data) (hl : IntsAt w pl lanes) (hlg : Off g pl lanes) (hal : all.length ≤ 1000) (hdl : all.length ≤ data.length) (hll : all.length ≤ lanes.length) (ha : ∀ a ∈ all, 0 ≤ a ∧ a < (ws.length : Int)) :
    Calls Try.prog 87 #[.agg #[.slice (some ⟨g, 0, none⟩) ws.length cw], .slice q all.length cq, .slice pd data.length cd, .slice pl lanes.length cl] w fun e w' => e = .returned (.agg #[.slice (some ⟨g, 0, none⟩) ws.length cw]) ∧ ORow 3 1 w' g cw ws.length ((putAll ws all data lanes).map (Value.int .i64)) ∧ Kept (fun k => k = g) w w' := by
  have HG := Hid.intro hg
  have HQ := Hid.intro (And.intro hq hqg)
  have HD := Hid.intro (And.intro hd hdg)
  have HL := Hid.intro (And.intro hl hlg)
  have HA := Hid.intro ha
  have hgl := hg.lt
  clear hg hq hqg hd hdg hl hlg ha
  have hb2 : ∀ o o', Below w.heap.size w ((w.alloc o).alloc o') := fun o o' => ((Below.refl _ w).alloc (Nat.le_refl _) o).alloc (by simp) o'
  go_enter Try.func87, Try.ntmps87
  go_wp2_with fail
  go_loopw [9] (fun i wr => ∃ (k : Nat), k ≤ all.length ∧ i = .int .i64 k ∧ Hid (ORow 3 1 wr g cw ws.length ((putN ws all data lanes k).map (Value.int .i64))) ∧ Hid (Kept (fun k => k = g) w wr) ∧ Hid (wr.heap[w.heap.size]? = some (.cells #[.slice (some ⟨g, 0, none⟩) ws.length cw] 43 (0, 0)) ∧ wr.heap[w.heap.size + 1]? = some (.cells #[.slice none 0 0] 43 (0, 0)))) (fun i _ => all.length - (intOf i).toNat)
  case atStart =>
    exact ⟨0, Nat.zero_le _, rfl, HG.out.of ((hb2 _ _).block g hgl), Kept.of_below (hb2 _ _), (Below.heap_alloc _ _ _ (by simp)).trans (nw_at _ rfl), nw_at _ (by simp)⟩
  case round =>
    obtain ⟨k, hk, rfl, HO, HK, HX⟩ := hrel
    by_cases hlt : k < all.length
    · rcases HQ.out.1 with hx | ⟨bq, oq, rfl, hbq, hcq⟩
      · subst hx; simp at hlt
      rcases HD.out.1 with hx | ⟨bd, od, rfl, hbd, hcd⟩
      · rw [hx] at hdl; simp only [List.length_nil] at hdl; omega
      rcases HL.out.1 with hx | ⟨bl, ol, rfl, hbl, hcl0⟩
      · rw [hx] at hll; simp only [List.length_nil] at hll; omega
      obtain ⟨ha0, ha1⟩ := HA.out all[k] (List.getElem_mem hlt)
      obtain ⟨a, haE⟩ := Int.eq_ofNat_of_zero_le ha0
      have hal : a < ws.length := by omega
      have nq : bq ≠ g := by
        rcases HQ.out.2 with h | h
        · subst h; simp at hlt
        · exact h bq oq rfl
      have nd : bd ≠ g := by
        rcases HD.out.2 with h | h
        · rw [h] at hdl; simp only [List.length_nil] at hdl; omega
        · exact h bd od rfl
      have nl : bl ≠ g := by
        rcases HL.out.2 with h | h
        · rw [h] at hll; simp only [List.length_nil] at hll; omega
        · exact h bl ol rfl
      have cq1 := (HK.out.cell (p := ⟨bq, oq + k, none⟩) hbq nq).trans (hcq k hlt)
      have cd1 := (HK.out.cell (p := ⟨bd, od + k, none⟩) hbd nd).trans (hcd k (by omega))
      have cl1 := (HK.out.cell (p := ⟨bl, ol + k, none⟩) hbl nl).trans (hcl0 k (by omega))
      rw [haE] at cq1
      have hlen := putN_len ws all data lanes k
      have co1 : wr.cell? ⟨g, a, none⟩ = some (.int .i64 (getZ (putN ws all data lanes k) (a : Int))) := by
        have hal' : a < (putN ws all data lanes k).length := by omega
        rw [getZ_get hal']
        exact HO.out.get a _ (by simp [hal'])
      have HZ : Hid ((putN ws all data lanes k).set a (wrdPutZ (getZ (putN ws all data lanes k) (a : Int)) data[k] lanes[k]) = putN ws all data lanes (k + 1)) := Hid.intro (by
        show _ = put1 _ _ _ _
        have e1 : all.getD k 0 = (a : Int) := by simp [hlt, haE]
        have e2 : data.getD k 0 = data[k] := by simp [show k < data.length by omega]
        have e3 : lanes.getD k 0 = lanes[k] := by simp [show k < lanes.length by omega]
        rw [e1, e2, e3]
        rfl)
      obtain ⟨o, ho⟩ : ∃ o, o = getZ (putN ws all data lanes k) (a : Int) := ⟨_, rfl⟩
      obtain ⟨d, hd⟩ : ∃ d, d = data[k] := ⟨_, rfl⟩
      obtain ⟨l, hl⟩ : ∃ l, l = lanes[k] := ⟨_, rfl⟩
      rw [← hd, ← hl, ← ho] at HZ
      rw [← ho] at co1
      rw [← hd] at cd1
      rw [← hl] at cl1
      clear ho hd hl hcq hcd hcl0 haE HQ HD HL HA
      obtain ⟨zs, hzs⟩ : ∃ zs, zs = putN ws all data lanes (k + 1) := ⟨_, rfl⟩
      rw [← hzs] at HZ
      have HZS := Hid.intro hzs
      clear hzs
      have hbx := HX.out
      have hws : w.heap.size + 2 ≤ wr.heap.size := by have := heap_lt hbx.2; omega
      have hkB : ∀ W, Kept (fun k => k = g) wr W → W.cell? ⟨w.heap.size, 0, none⟩ = some (.slice (some ⟨g, 0, none⟩) ws.length cw) := fun W h => (h.cell (p := ⟨w.heap.size, 0, none⟩) (by show w.heap.size < _; omega) (by show ¬ w.heap.size = g; omega)).trans (heap_cell hbx.1 0)
      have hkq : ∀ W, Kept (fun k => k = g) wr W → W.cell? ⟨bq, oq + k, none⟩ = some (.int .i64 (a : Int)) := fun W h => (h.cell (p := ⟨bq, oq + k, none⟩) (by show bq < _; omega) nq).trans cq1
      have hkd : ∀ W, Kept (fun k => k = g) wr W → W.cell? ⟨bd, od + k, none⟩ = some (.int .i64 d) := fun W h => (h.cell (p := ⟨bd, od + k, none⟩) (by show bd < _; omega) nd).trans cd1
      have hkl : ∀ W, Kept (fun k => k = g) wr W → W.cell? ⟨bl, ol + k, none⟩ = some (.int .i64 l) := fun W h => (h.cell (p := ⟨bl, ol + k, none⟩) (by show bl < _; omega) nl).trans cl1
      have hOr := HO.out
      have hrow : ∀ W, ORow 3 1 W g cw ws.length ((putN ws all data lanes k).map (Value.int .i64)) → W.cell? ⟨g, a, none⟩ = some (.int .i64 o) := by
        intro W hO
        have := hO.get a (.int .i64 ((putN ws all data lanes k)[a]'(by omega))) (by simp [show a < (putN ws all data lanes k).length by omega])
        rw [this]
        have e := HO.out.get a (.int .i64 ((putN ws all data lanes k)[a]'(by omega))) (by simp [show a < (putN ws all data lanes k).length by omega])
        rw [e] at co1
        exact co1
      have hCg : ∀ (d' : Nat → Bool) (W W' : World), (Kept (fun k => k = g) wr W ∧ (d' 24 = false → ORow 3 1 W g cw ws.length ((putN ws all data lanes k).map (Value.int .i64)))) → Gr W W' → (Kept (fun k => k = g) wr W' ∧ (d' 24 = false → ORow 3 1 W' g cw ws.length ((putN ws all data lanes k).map (Value.int .i64)))) := fun d' W W' h hg => ⟨h.1.trans (Kept.of_below hg), fun hd' => (h.2 hd').gr hg⟩
      have hk0 : (0 : Int) ≤ (k : Int) := by omega
      have hk1 : (k : Int) < (all.length : Int) := by omega
      have hk2 : (k : Int) < (data.length : Int) := by omega
      have hk3 : (k : Int) < (lanes.length : Int) := by omega
      have ha2 : (0 : Int) ≤ (a : Int) := by omega
      have ha3 : (a : Int) < (ws.length : Int) := by omega
      have HKW := Hid.intro (fun W (h : Kept (fun k => k = g) wr W) => HK.out.trans h)
      have HXW := Hid.intro (fun W (h : Kept (fun k => k = g) wr W) => And.intro ((h.block w.heap.size (by omega) (by omega)).trans hbx.1) ((h.block (w.heap.size + 1) (by omega) (by omega)).trans hbx.2))
      clear HO HK HX hbx cq1 cd1 cl1 co1 hb2 HG hlen
      go_wp2_with fail
      refine wp_region_fl (by kernel_rfl) (fl_l2Put w.heap.size g ws.length cw bq oq all.length cq bd od data.length cd bl ol lanes.length cl k a o d l zs) (fun d W => Kept (fun k => k = g) wr W ∧ (d 24 = false → ORow 3 1 W g cw ws.length ((putN ws all data lanes k).map (Value.int .i64)))) [16, 17, 18, 19, 20, 21, 22, 23, 24, 25, 26, 27, 28, 29, 30, 31, 32, 33, 34, 35, 36, 37, 38, 39] (by kernel_rfl) (by kernel_rfl) (by kernel_rfl) ?c0 ?looks ?done
      case looks =>
        intro hcl i o ho
        rcases i with _ | _ | _ | _ | _ | _ | _ | _ | _ | _ | _ | _ | _ | _ | _ | _ | _ | _ | _ | _ | _ | _ | _ | _ | _ | i
        · simp at ho; subst ho
          refine fo_det (st_l2Put w.heap.size g ws.length cw bq oq all.length cq bd od data.length cd bl ol lanes.length cl k a o d l zs) hcl rfl rfl rfl rfl (by kernel_rfl) (fun _ _ h => h) (fun done ρ W hat => ?_)
          have e4 : ρ (.tmp 4) = .pointer (some ⟨w.heap.size, 0, none⟩) := hat.out 4 (by kernel_rfl)
          have hC := hat.cls
          have hc := hat.con
          simp only [execOp, e4]
          go_simp
        · simp at ho; subst ho
          refine fo_det (st_l2Put w.heap.size g ws.length cw bq oq all.length cq bd od data.length cd bl ol lanes.length cl k a o d l zs) hcl rfl rfl rfl rfl (by kernel_rfl) (fun _ _ h => h) (fun done ρ W hat => ?_)
          have e16 : ρ (.tmp 16) = .pointer (some ⟨w.heap.size, 0, none⟩) := fIs_at (d := 16) (v := .pointer (some ⟨w.heap.size, 0, none⟩)) (hat.fact 0 (by kernel_rfl))
          have hC := hat.cls
          have c0 := hkB W hC.1
          have hc := hat.con
          simp only [execOp, e16]
          go_simp
        · simp at ho; subst ho
          refine fo_det (st_l2Put w.heap.size g ws.length cw bq oq all.length cq bd od data.length cd bl ol lanes.length cl k a o d l zs) hcl rfl rfl rfl rfl (by kernel_rfl) (fun _ _ h => h) (fun done ρ W hat => ?_)
          have e1 : ρ (.tmp 1) = .slice (some ⟨bq, oq, none⟩) all.length cq := hat.out 1 (by kernel_rfl)
          have hC := hat.cls
          have hc := hat.con
          simp only [execOp, e1]
          go_simp
        · simp at ho; subst ho
          refine fo_det (st_l2Put w.heap.size g ws.length cw bq oq all.length cq bd od data.length cd bl ol lanes.length cl k a o d l zs) hcl rfl rfl rfl rfl (by kernel_rfl) (fun _ _ h => h) (fun done ρ W hat => ?_)
          have e9 : ρ (.tmp 9) = .int .i64 (k : Int) := hat.out 9 (by kernel_rfl)
          have hC := hat.cls
          have hc := hat.con
          simp only [execOp, e9]
          go_simp
        · simp at ho; subst ho
          refine fo_det (st_l2Put w.heap.size g ws.length cw bq oq all.length cq bd od data.length cd bl ol lanes.length cl k a o d l zs) hcl rfl rfl rfl rfl (by kernel_rfl) (fun _ _ h => h) (fun done ρ W hat => ?_)
          have e18 : ρ (.tmp 18) = .slice (some ⟨bq, oq, none⟩) all.length cq := fIs_at (d := 18) (v := .slice (some ⟨bq, oq, none⟩) all.length cq) (hat.fact 2 (by kernel_rfl))
          have e19 : ρ (.tmp 19) = .int .i64 (k : Int) := fIs_at (d := 19) (v := .int .i64 (k : Int)) (hat.fact 3 (by kernel_rfl))
          have hC := hat.cls
          have hc := hat.con
          simp only [execOp, e18, e19]
          go_simp
        · simp at ho; subst ho
          refine fo_det (st_l2Put w.heap.size g ws.length cw bq oq all.length cq bd od data.length cd bl ol lanes.length cl k a o d l zs) hcl rfl rfl rfl rfl (by kernel_rfl) (fun _ _ h => h) (fun done ρ W hat => ?_)
          have e20 : ρ (.tmp 20) = .pointer (some ⟨bq, oq + k, none⟩) := fIs_at (d := 20) (v := .pointer (some ⟨bq, oq + k, none⟩)) (hat.fact 4 (by kernel_rfl))
          have hC := hat.cls
          have c1 := hkq W hC.1
          have hc := hat.con
          simp only [execOp, e20]
          go_simp
        · simp at ho; subst ho
          refine fo_det (st_l2Put w.heap.size g ws.length cw bq oq all.length cq bd od data.length cd bl ol lanes.length cl k a o d l zs) hcl rfl rfl rfl rfl (by kernel_rfl) (fun _ _ h => h) (fun done ρ W hat => ?_)
          have e4 : ρ (.tmp 4) = .pointer (some ⟨w.heap.size, 0, none⟩) := hat.out 4 (by kernel_rfl)
          have hC := hat.cls
          have hc := hat.con
          simp only [execOp, e4]
          go_simp
        · simp at ho; subst ho
          refine fo_det (st_l2Put w.heap.size g ws.length cw bq oq all.length cq bd od data.length cd bl ol lanes.length cl k a o d l zs) hcl rfl rfl rfl rfl (by kernel_rfl) (fun _ _ h => h) (fun done ρ W hat => ?_)
          have e22 : ρ (.tmp 22) = .pointer (some ⟨w.heap.size, 0, none⟩) := fIs_at (d := 22) (v := .pointer (some ⟨w.heap.size, 0, none⟩)) (hat.fact 6 (by kernel_rfl))
          have hC := hat.cls
          have c0 := hkB W hC.1
          have hc := hat.con
          simp only [execOp, e22]
          go_simp
        · simp at ho; subst ho
          refine fo_det (st_l2Put w.heap.size g ws.length cw bq oq all.length cq bd od data.length cd bl ol lanes.length cl k a o d l zs) hcl rfl rfl rfl rfl (by kernel_rfl) (fun _ _ h => h) (fun done ρ W hat => ?_)
          have e1 : ρ (.tmp 1) = .slice (some ⟨bq, oq, none⟩) all.length cq := hat.out 1 (by kernel_rfl)
          have hC := hat.cls
          have hc := hat.con
          simp only [execOp, e1]
          go_simp
        · simp at ho; subst ho
          refine fo_det (st_l2Put w.heap.size g ws.length cw bq oq all.length cq bd od data.length cd bl ol lanes.length cl k a o d l zs) hcl rfl rfl rfl rfl (by kernel_rfl) (fun _ _ h => h) (fun done ρ W hat => ?_)
          have e9 : ρ (.tmp 9) = .int .i64 (k : Int) := hat.out 9 (by kernel_rfl)
          have hC := hat.cls
          have hc := hat.con
          simp only [execOp, e9]
          go_simp
        · simp at ho; subst ho
          refine fo_det (st_l2Put w.heap.size g ws.length cw bq oq all.length cq bd od data.length cd bl ol lanes.length cl k a o d l zs) hcl rfl rfl rfl rfl (by kernel_rfl) (fun _ _ h => h) (fun done ρ W hat => ?_)
          have e24 : ρ (.tmp 24) = .slice (some ⟨bq, oq, none⟩) all.length cq := fIs_at (d := 24) (v := .slice (some ⟨bq, oq, none⟩) all.length cq) (hat.fact 8 (by kernel_rfl))
          have e25 : ρ (.tmp 25) = .int .i64 (k : Int) := fIs_at (d := 25) (v := .int .i64 (k : Int)) (hat.fact 9 (by kernel_rfl))
          have hC := hat.cls
          have hc := hat.con
          simp only [execOp, e24, e25]
          go_simp
        · simp at ho; subst ho
          refine fo_det (st_l2Put w.heap.size g ws.length cw bq oq all.length cq bd od data.length cd bl ol lanes.length cl k a o d l zs) hcl rfl rfl rfl rfl (by kernel_rfl) (fun _ _ h => h) (fun done ρ W hat => ?_)
          have e26 : ρ (.tmp 26) = .pointer (some ⟨bq, oq + k, none⟩) := fIs_at (d := 26) (v := .pointer (some ⟨bq, oq + k, none⟩)) (hat.fact 10 (by kernel_rfl))
          have hC := hat.cls
          have c1 := hkq W hC.1
          have hc := hat.con
          simp only [execOp, e26]
          go_simp
        · simp at ho; subst ho
          refine fo_det (st_l2Put w.heap.size g ws.length cw bq oq all.length cq bd od data.length cd bl ol lanes.length cl k a o d l zs) hcl rfl rfl rfl rfl (by kernel_rfl) (fun _ _ h => h) (fun done ρ W hat => ?_)
          have e23 : ρ (.tmp 23) = .slice (some ⟨g, 0, none⟩) ws.length cw := fIs_at (d := 23) (v := .slice (some ⟨g, 0, none⟩) ws.length cw) (hat.fact 7 (by kernel_rfl))
          have e27 : ρ (.tmp 27) = .int .i64 (a : Int) := fIs_at (d := 27) (v := .int .i64 (a : Int)) (hat.fact 11 (by kernel_rfl))
          have hC := hat.cls
          have hc := hat.con
          simp only [execOp, e23, e27]
          go_simp
        · simp at ho; subst ho
          refine fo_det (st_l2Put w.heap.size g ws.length cw bq oq all.length cq bd od data.length cd bl ol lanes.length cl k a o d l zs) hcl rfl rfl rfl rfl (by kernel_rfl) (fun _ _ h => h) (fun done ρ W hat => ?_)
          have e28 : ρ (.tmp 28) = .pointer (some ⟨g, a, none⟩) := fIs_at (d := 28) (v := .pointer (some ⟨g, a, none⟩)) (hat.fact 12 (by kernel_rfl))
          have hC := hat.cls
          have c2 := hrow W (hC.2 (hat.notyet 24 (by kernel_rfl)))
          have hc := hat.con
          simp only [execOp, e28]
          go_simp
        · simp at ho; subst ho
          refine fo_det (st_l2Put w.heap.size g ws.length cw bq oq all.length cq bd od data.length cd bl ol lanes.length cl k a o d l zs) hcl rfl rfl rfl rfl (by kernel_rfl) (fun _ _ h => h) (fun done ρ W hat => ?_)
          have e2 : ρ (.tmp 2) = .slice (some ⟨bd, od, none⟩) data.length cd := hat.out 2 (by kernel_rfl)
          have hC := hat.cls
          have hc := hat.con
          simp only [execOp, e2]
          go_simp
        · simp at ho; subst ho
          refine fo_det (st_l2Put w.heap.size g ws.length cw bq oq all.length cq bd od data.length cd bl ol lanes.length cl k a o d l zs) hcl rfl rfl rfl rfl (by kernel_rfl) (fun _ _ h => h) (fun done ρ W hat => ?_)
          have e9 : ρ (.tmp 9) = .int .i64 (k : Int) := hat.out 9 (by kernel_rfl)
          have hC := hat.cls
          have hc := hat.con
          simp only [execOp, e9]
          go_simp
        · simp at ho; subst ho
          refine fo_det (st_l2Put w.heap.size g ws.length cw bq oq all.length cq bd od data.length cd bl ol lanes.length cl k a o d l zs) hcl rfl rfl rfl rfl (by kernel_rfl) (fun _ _ h => h) (fun done ρ W hat => ?_)
          have e30 : ρ (.tmp 30) = .slice (some ⟨bd, od, none⟩) data.length cd := fIs_at (d := 30) (v := .slice (some ⟨bd, od, none⟩) data.length cd) (hat.fact 14 (by kernel_rfl))
          have e31 : ρ (.tmp 31) = .int .i64 (k : Int) := fIs_at (d := 31) (v := .int .i64 (k : Int)) (hat.fact 15 (by kernel_rfl))
          have hC := hat.cls
          have hc := hat.con
          simp only [execOp, e30, e31]
          go_simp
        · simp at ho; subst ho
          refine fo_det (st_l2Put w.heap.size g ws.length cw bq oq all.length cq bd od data.length cd bl ol lanes.length cl k a o d l zs) hcl rfl rfl rfl rfl (by kernel_rfl) (fun _ _ h => h) (fun done ρ W hat => ?_)
          have e32 : ρ (.tmp 32) = .pointer (some ⟨bd, od + k, none⟩) := fIs_at (d := 32) (v := .pointer (some ⟨bd, od + k, none⟩)) (hat.fact 16 (by kernel_rfl))
          have hC := hat.cls
          have c3 := hkd W hC.1
          have hc := hat.con
          simp only [execOp, e32]
          go_simp
        · simp at ho; subst ho
          refine fo_det (st_l2Put w.heap.size g ws.length cw bq oq all.length cq bd od data.length cd bl ol lanes.length cl k a o d l zs) hcl rfl rfl rfl rfl (by kernel_rfl) (fun _ _ h => h) (fun done ρ W hat => ?_)
          have e3 : ρ (.tmp 3) = .slice (some ⟨bl, ol, none⟩) lanes.length cl := hat.out 3 (by kernel_rfl)
          have hC := hat.cls
          have hc := hat.con
          simp only [execOp, e3]
          go_simp
        · simp at ho; subst ho
          refine fo_det (st_l2Put w.heap.size g ws.length cw bq oq all.length cq bd od data.length cd bl ol lanes.length cl k a o d l zs) hcl rfl rfl rfl rfl (by kernel_rfl) (fun _ _ h => h) (fun done ρ W hat => ?_)
          have e9 : ρ (.tmp 9) = .int .i64 (k : Int) := hat.out 9 (by kernel_rfl)
          have hC := hat.cls
          have hc := hat.con
          simp only [execOp, e9]
          go_simp
        · simp at ho; subst ho
          refine fo_det (st_l2Put w.heap.size g ws.length cw bq oq all.length cq bd od data.length cd bl ol lanes.length cl k a o d l zs) hcl rfl rfl rfl rfl (by kernel_rfl) (fun _ _ h => h) (fun done ρ W hat => ?_)
          have e34 : ρ (.tmp 34) = .slice (some ⟨bl, ol, none⟩) lanes.length cl := fIs_at (d := 34) (v := .slice (some ⟨bl, ol, none⟩) lanes.length cl) (hat.fact 18 (by kernel_rfl))
          have e35 : ρ (.tmp 35) = .int .i64 (k : Int) := fIs_at (d := 35) (v := .int .i64 (k : Int)) (hat.fact 19 (by kernel_rfl))
          have hC := hat.cls
          have hc := hat.con
          simp only [execOp, e34, e35]
          go_simp
        · simp at ho; subst ho
          refine fo_det (st_l2Put w.heap.size g ws.length cw bq oq all.length cq bd od data.length cd bl ol lanes.length cl k a o d l zs) hcl rfl rfl rfl rfl (by kernel_rfl) (fun _ _ h => h) (fun done ρ W hat => ?_)
          have e36 : ρ (.tmp 36) = .pointer (some ⟨bl, ol + k, none⟩) := fIs_at (d := 36) (v := .pointer (some ⟨bl, ol + k, none⟩)) (hat.fact 20 (by kernel_rfl))
          have hC := hat.cls
          have c4 := hkl W hC.1
          have hc := hat.con
          simp only [execOp, e36]
          go_simp
        · simp at ho; subst ho
          refine fo_grow (st_l2Put w.heap.size g ws.length cw bq oq all.length cq bd od data.length cd bl ol lanes.length cl k a o d l zs) hcl rfl rfl (fun done ρ W hat => ?_)
          have e29 : ρ (.tmp 29) = .int .i64 o := fIs_at (d := 29) (v := .int .i64 o) (hat.fact 13 (by kernel_rfl))
          have e33 : ρ (.tmp 33) = .int .i64 d := fIs_at (d := 33) (v := .int .i64 d) (hat.fact 17 (by kernel_rfl))
          have e37 : ρ (.tmp 37) = .int .i64 l := fIs_at (d := 37) (v := .int .i64 l) (hat.fact 21 (by kernel_rfl))
          have hC := hat.cls
          have hf := hat.fn
          have hc := hat.con
          refine up_call 98 #[.int .i64 o, .int .i64 d, .int .i64 l] (by simp only [execOp]; go_simp) ?_
          refine (gr_same (spec_WrdPut o d l W)).mono ?_
          rintro e W1 ⟨rfl, hb⟩
          exact ⟨_, rfl, hCg _ _ _ hC hb, hb, fIs_mk (updV_same _ _ _), free_spec (by kernel_rfl) hat.lt⟩
        · simp at ho; subst ho
          refine fo_det (st_l2Put w.heap.size g ws.length cw bq oq all.length cq bd od data.length cd bl ol lanes.length cl k a o d l zs) hcl rfl rfl rfl rfl (by kernel_rfl) (fun _ _ h => h) (fun done ρ W hat => ?_)
          have e17 : ρ (.tmp 17) = .slice (some ⟨g, 0, none⟩) ws.length cw := fIs_at (d := 17) (v := .slice (some ⟨g, 0, none⟩) ws.length cw) (hat.fact 1 (by kernel_rfl))
          have e21 : ρ (.tmp 21) = .int .i64 (a : Int) := fIs_at (d := 21) (v := .int .i64 (a : Int)) (hat.fact 5 (by kernel_rfl))
          have hC := hat.cls
          have hc := hat.con
          simp only [execOp, e17, e21]
          go_simp
        · simp at ho; subst ho
          refine fo_rel (S := fun _ _ => True) (E := [24]) (any_l2Put w.heap.size g ws.length cw bq oq all.length cq bd od data.length cd bl ol lanes.length cl k a o d l zs) hcl rfl rfl (fun done ρ W hat => ?_)
          have e38 : ρ (.tmp 38) = .int .i64 (wrdPutZ o d l) := fIs_at (d := 38) (v := .int .i64 (wrdPutZ o d l)) (hat.fact 22 (by kernel_rfl))
          have e39 : ρ (.tmp 39) = .pointer (some ⟨g, a, none⟩) := fIs_at (d := 39) (v := .pointer (some ⟨g, a, none⟩)) (hat.fact 23 (by kernel_rfl))
          have hC := hat.cls
          have hO := hC.2 hat.new
          have c2 := hrow W hO
          have f2 := hO.free a
          refine up_skip (W.setCell ⟨g, a, none⟩ (.int .i64 (wrdPutZ o d l))) (by simp only [execOp]; go_simp) ?_
          refine ⟨⟨hC.1.trans (Kept.setCell (D := fun k => k = g) (p := ⟨g, a, none⟩) _ rfl _), fun h => absurd (show true = false from h) (by decide)⟩, trivial, ?_, fun j hj hcj => ?_⟩
          · show ORow _ _ _ _ _ _ _
            rw [← HZ.out]
            exact hO.set a hal _
          · have hj24 : j = 24 := ask_l2Put j (hat.lt j hj) hcj
            subst hj24; have := hat.new; rw [hj] at this; cases this
        · simp at ho
      case c0 => exact ⟨Kept.drew _ _, fun _ => hOr⟩
      case done =>
        intro f W hC hf hout
        have hnew : ORow 3 1 W g cw ws.length (zs.map (Value.int .i64)) := hf 24 (by decide)
        rw [HZS.out] at hnew
        simp only [fill]
        go_simp
        go_wp2
        go_roundw
        case rel => exact ⟨k + 1, by omega, by go_num, hnew, HKW.out W hC.1, HXW.out W hC.1⟩
        case measure => simp [intOf]; omega
    · have hke : k = all.length := by omega
      subst hke
      have hk1 : ¬ ((all.length : Nat) : Int) < ((all.length : Nat) : Int) := by omega
      obtain ⟨hB, hR⟩ := HX.out
      have hws : w.heap.size + 2 ≤ wr.heap.size := by have := heap_lt hR; omega
      have c0 : wr.cell? ⟨w.heap.size, 0, none⟩ = some (.slice (some ⟨g, 0, none⟩) ws.length cw) := heap_cell hB 0
      have r0 : wr.cell? ⟨w.heap.size + 1, 0, none⟩ = some (.slice none 0 0) := heap_cell hR 0
      have f0 := heap_free hR 0
      have hR2 := heap_set hR 0 (.slice (some ⟨g, 0, none⟩) ws.length cw)
      have r1 : (wr.setCell ⟨w.heap.size + 1, 0, none⟩ (.slice (some ⟨g, 0, none⟩) ws.length cw)).cell? ⟨w.heap.size + 1, 0, none⟩ = some (.slice (some ⟨g, 0, none⟩) ws.length cw) := heap_cell hR2 0
      have HO2 := Hid.intro (HO.out.of (heap_set_ne (b := w.heap.size + 1) (i := 0) (v := .slice (some ⟨g, 0, none⟩) ws.length cw) (by omega)))
      clear hR2 hR hB HX
      go_wp2
      refine bodyPost_ret (v := .agg #[.slice (some ⟨g, 0, none⟩) ws.length cw]) (by simp [results, Try.results87, go_sem, r1]) rfl ⟨rfl, HO2.out, ?_⟩
      exact ⟨HK.out.os, HK.out.tape, HK.out.output, by have := HK.out.size; simp; omega, fun i hi hne => (heap_set_ne (b := w.heap.size + 1) (by omega)).trans (HK.out.block i hi hne)⟩

end Go.Proofs.Ytlifkfemdknndaa
