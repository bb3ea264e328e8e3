/-
  AtmOk, and copies, of the model.
-/
import Derived.Test.YtlifkfemdknndaaPureT
import Derived.Test.YtlifkfemdknndaaAppS
import Derived.Test.YtlifkfemdknndaaFacts
import Derived.Laws.ResultCell
import Derived.Laws.Rows
namespace Go.Proofs.Ytlifkfemdknndaa
open Go.RowKit
set_option linter.unusedSimpArgs false
set_option linter.unusedVariables false

theorem nw_at {w : World} {n : Nat} (o : Obj) (h : n = w.heap.size) : (w.alloc o).heap[n]? = some o := by
  subst h
  show (w.heap.push o)[w.heap.size]? = some o
  simp

theorem stOk_eq (s : Stt) : stOkB s = (memOkB s.words && (((s.holds.length : Int) == 6) && allIn s.holds (-1) 63)) := by
  unfold stOkB
  rw [show decide (s.holds.length = 6) = ((s.holds.length : Int) == 6) by rw [Bool.eq_iff_iff]; simp; omega]

set_option maxRecDepth 100000 in
set_option maxHeartbeats 1000000 in
theorem spec_AtmOk (s : Stt) (pw ph : Option Addr) (cw ch : Nat) (w : World) (h : StAt w s pw cw ph ch) :
    Calls Try.prog 56 #[stV s pw cw ph ch] w fun e w' => e = .returned (.bool (stOkB s)) ∧ Below w.heap.size w w' := by
  have hbl : ∀ o, Below w.heap.size w (w.alloc o) := fun o => (Below.refl _ w).alloc (Nat.le_refl _) o
  have HE := Hid.intro (stOk_eq s)
  have HA := Hid.intro h
  clear h
  unfold stV
  go_enter Try.func56, Try.ntmps56
  go_wp2_with fail
  refine (spec_MemOk pw cw s.words _ (HA.out.below (hbl _)).words HA.out.cw1 HA.out.cw2).mono ?_
  rintro e w1 ⟨rfl, hb1⟩
  have hs1 := hb1.size
  simp at hs1
  have c1 : w1.cell? ⟨w.heap.size, 1, none⟩ = some (.slice ph s.holds.length ch) := (hb1.cell (p := ⟨w.heap.size, 1, none⟩) (by simp)).trans (by simp)
  have hb1' := (hbl _).trans (hb1.mono (hbl _).size)
  have HA1 := Hid.intro (HA.out.below hb1')
  clear hb1 HA
  cases h1 : memOkB s.words
  · go_wp2
    go_ret
    exact ⟨by rw [HE.out, h1]; rfl, hb1'⟩
  cases h2 : ((s.holds.length : Int) == 6)
  · go_wp2
    go_ret
    exact ⟨by rw [HE.out, h1, h2]; rfl, hb1'⟩
  go_wp2_with fail
  refine (l3All_any ph ch s.holds (-1) 63 w1 HA1.out.holds HA1.out.ch1 HA1.out.ch2).mono ?_
  rintro e w2 ⟨rfl, hw⟩
  replace hw := hw.symm
  subst hw
  go_wp2
  go_ret
  exact ⟨by rw [HE.out, h1, h2]; rfl, hb1'⟩

/-- append to an empty row without room: nothing that lay turns -/
theorem run_app_new {ρ : Operand → Value} {o : Oper} {w : World} {s x g : Nat} {p : Option Addr} {c : Nat} {ys : List Int}
    (ho : o.op = .call { callee := .builtin .append, args := #[.tmp s, .tmp x], argTypes := #[24, 24] })
    (hs : ρ (.tmp s) = .slice (some ⟨g, 0, none⟩) 0 0) (hE : w.heap[g]? = some (.cells #[] 3 (0, 0))) (hx : ρ (.tmp x) = .slice p ys.length c) (hY : IntsAt w p ys) (hlen : ys.length ≤ 100000) :
    ∃ g' c' w', (execOp ρ o).run Try.prog w = .ok (.value (.slice (some ⟨g', 0, none⟩) ys.length c')) w' ∧ ORow 3 1 w' g' c' ys.length (ys.map (Value.int .i64)) ∧ ys.length ≤ c' ∧ c' ≤ 9223372036854775807 ∧ (ys ≠ [] → w.heap.size ≤ g') ∧ (g' = g ∨ w.heap.size ≤ g') ∧ Gr w w' := by
  obtain ⟨i0, hi, hz0, hz1, hz2⟩ := info_parts Try.infoInt
  have hW : ORow 3 1 w g 0 0 ([] : List Value) := ⟨#[], hE, rfl, Nat.le_refl _, rfl, rfl⟩
  by_cases hp : ∃ b off, p = some ⟨b, off, none⟩
  · obtain ⟨b, off, rfl⟩ := hp
    obtain ⟨g', cap', w', e, hO, hc', hG, hg', hold⟩ := run_append_rows (P := Try.prog) (w := w) (ρ := ρ) (o := o) (xs := []) (ys := ys.map (Value.int .i64)) 24 3 i0 _ 1 8 Try.underlying24 hi hz0 hz1 hz2 rfl (by omega) ho hs hW hx (by simp) (news_ints hY) (by simp [Value.oneCell']) (by unfold maxLen; omega) (by unfold maxLen; omega) (by omega)
    have hg0 := hold 0 0 [] hW (.inl (Nat.le_refl _))
    have hgE : w'.heap[g]? = w.heap[g]? := by
      obtain ⟨cur, k1, k2, _⟩ := hg0
      have : cur = #[] := Array.eq_empty_of_size_eq_zero (by omega)
      rw [k1, hE, this]
    have hgr : Gr w w' := ⟨hG.os, hG.tape, hG.output, hG.size, fun k hk => by
      by_cases hkg : k = g
      · rw [hkg]; exact hgE
      · exact hG.block k hk hkg⟩
    have hO' : ORow 3 1 w' g' cap' ys.length (ys.map (Value.int .i64)) := by simpa using hO
    have hcl' : ys.length ≤ cap' := by obtain ⟨_, _, _, h, _⟩ := hO'; exact h
    refine ⟨g', cap', w', by simpa using e, hO', hcl', by unfold maxLen at hc'; omega, fun hne => ?_, hg', hgr⟩
    rcases hg' with rfl | h
    · exfalso
      obtain ⟨cur, k1, k2, k3, _⟩ := hO'
      rw [hgE, hE] at k1
      cases k1
      have : ys.length = 0 := by simp at k2; omega
      exact hne (List.length_eq_zero_iff.1 this)
    · exact h
  · have hy : ys = [] := by
      rcases hY with h | ⟨b, off, h, _⟩
      · exact h
      · exact absurd ⟨b, off, h⟩ hp
    subst hy
    have hrun : (Builtin.append_ #[24, 24] o.type #[.slice (some ⟨g, 0, none⟩) 0 0, .slice p 0 c]).run Try.prog w = .ok (.slice (some ⟨g, 0, none⟩) 0 0) w := by
      cases p with
      | none => simp [Builtin.append_, run_underlying Try.underlying24, sizeOf, typeInfo, hi, Builtin.lenOf, Builtin.firstCells, loadCells, loadCellsFrom, storeCells]
      | some a => simp [Builtin.append_, run_underlying Try.underlying24, sizeOf, typeInfo, hi, Builtin.lenOf, Builtin.firstCells, loadCells, loadCellsFrom, storeCells]
    refine ⟨g, 0, w, ?_, hW, Nat.le_refl _, by omega, fun h => absurd rfl h, .inl rfl, Gr.refl _⟩
    unfold execOp
    simp only [ho, resolve, invoke, builtin, Sem.run_bind, Sem.run_pure, Result.andThen_ok, List.map_toArray, List.map_cons, List.map_nil, hs, hx, List.length_nil, hrun]

theorem ty_app_new {ρ : Operand → Value} {o : Oper} {w : World} {s x g : Nat} {p : Option Addr} {c : Nat} {ys : List Int} {F : World → Value → Prop}
    (ho : o.op = .call { callee := .builtin .append, args := #[.tmp s, .tmp x], argTypes := #[24, 24] })
    (hs : ρ (.tmp s) = .slice (some ⟨g, 0, none⟩) 0 0) (hE : w.heap[g]? = some (.cells #[] 3 (0, 0))) (hx : ρ (.tmp x) = .slice p ys.length c) (hY : IntsAt w p ys) (hlen : ys.length ≤ 100000)
    (h : ∀ g' c' w', ORow 3 1 w' g' c' ys.length (ys.map (Value.int .i64)) → ys.length ≤ c' → c' ≤ 9223372036854775807 → (ys ≠ [] → w.heap.size ≤ g') → (g' = g ∨ w.heap.size ≤ g') → Gr w w' → F w' (.slice (some ⟨g', 0, none⟩) ys.length c')) : tyUpon Try.prog F ((execOp ρ o).run Try.prog w) := by
  obtain ⟨g', c', w', r1, r2, r3, r4, r5, r6, r7⟩ := run_app_new ho hs hE hx hY hlen
  rw [r1]
  exact h g' c' w' r2 r3 r4 r5 r6 r7

theorem ty_app_some {ρ : Operand → Value} {o : Oper} {w : World} {s x g cap : Nat} {p : Option Addr} {c : Nat} (xs ys : List Int) {F : World → Value → Prop}
    (ho : o.op = .call { callee := .builtin .append, args := #[.tmp s, .tmp x], argTypes := #[24, 24] })
    (hs : ρ (.tmp s) = .slice (some ⟨g, 0, none⟩) xs.length cap) (hW : ORow 3 1 w g cap xs.length (xs.map (Value.int .i64))) (hcap : cap ≤ maxLen) (hx : ρ (.tmp x) = .slice p ys.length c) (hY : IntsAt w p ys) (hlen : xs.length + ys.length ≤ 100000)
    (h : ∀ v w', AppPost w g (xs ++ ys) v w' → F w' v) : tyUpon Try.prog F ((execOp ρ o).run Try.prog w) := by
  obtain ⟨v, w', r1, r2⟩ := run_app_some ho hs hW hcap hx hY hlen
  rw [r1]
  exact h v w' r2

theorem wpList_app_new {ops : Array Oper} {rest : List Oper} {o : Oper} {a : Act} {Q : Exit → Act → World → Prop} {w : World} {s x g : Nat} {p : Option Addr} {c : Nat} (ys : List Int) (hg : o.guard = none)
    (ho : o.op = .call { callee := .builtin .append, args := #[.tmp s, .tmp x], argTypes := #[24, 24] })
    (hs : a.eval (.tmp s) = .slice (some ⟨g, 0, none⟩) 0 0) (hE : w.heap[g]? = some (.cells #[] 3 (0, 0))) (hx : a.eval (.tmp x) = .slice p ys.length c) (hY : IntsAt w p ys) (hlen : ys.length ≤ 100000)
    (h : ∀ g' c' w', ORow 3 1 w' g' c' ys.length (ys.map (Value.int .i64)) → ys.length ≤ c' → c' ≤ 9223372036854775807 → (g' = g ∨ w.heap.size ≤ g') → Gr w w' → wpList Try.prog ops Q rest (a.put o.dst (.slice (some ⟨g', 0, none⟩) ys.length c')) w') : wpList Try.prog ops Q (o :: rest) a w := by
  refine wpList_plain hg (fun K hK => ?_)
  obtain ⟨g', c', w', r1, r2, r3, r4, _, r5, r6⟩ := run_app_new (ρ := a.eval) ho hs hE hx hY hlen
  unfold Oper.wp
  rw [r1]
  exact hK _ _ (h g' c' w' r2 r3 r4 r5 r6)

set_option maxRecDepth 100000 in
set_option maxHeartbeats 1000000 in
theorem spec_l2Copy (p : Option Addr) (cap : Nat) (xs : List Int) (w : World) (hx : IntsAt w p xs) (hl : xs.length ≤ 100000) :
    Calls Try.prog 89 #[.agg #[.slice p xs.length cap]] w fun e w' => ∃ g c, e = .returned (.agg #[.slice (some ⟨g, 0, none⟩) xs.length c]) ∧ ORow 3 1 w' g c xs.length (xs.map (Value.int .i64)) ∧ xs.length ≤ c ∧ c ≤ 9223372036854775807 ∧ w.heap.size ≤ g ∧ Below w.heap.size w w' := by
  have HX := Hid.intro hx
  clear hx
  have hb3 : ∀ o o' o'', Below w.heap.size w (((w.alloc o).alloc o').alloc o'') := fun o o' o'' => (((Below.refl _ w).alloc (Nat.le_refl _) o).alloc (by simp) o').alloc (by simp <;> omega) o''
  go_enter Try.func89, Try.ntmps89
  go_wp2_with (at_builtin; refine wpList_app_new xs rfl rfl rfl (nw_at _ (by simp)) rfl (HX.out.below (hb3 _ _ _)) hl ?_; intro g' c' w1 hO h1 h2 hg hgr; have bR : w1.heap[w.heap.size + 1]? = some (.cells #[.slice none 0 0] 43 (0, 0)) := (hgr.block _ (by simp <;> omega)).trans ((Below.heap_alloc _ _ _ (by simp)).trans (nw_at _ (by simp))); have cR : w1.cell? ⟨w.heap.size + 1, 0, none⟩ = some (.slice none 0 0) := (heap_cell bR 0).trans rfl; have fR := heap_free bR 0)
  have hs1 := hgr.size
  simp at hs1
  have hbb := (hb3 _ _ _).trans (hgr.mono (hb3 _ _ _).size)
  have hgl : w.heap.size + 2 ≤ g' := by
    rcases hg with rfl | hg
    · omega
    · simp at hg; omega
  have bR2 := heap_set bR 0 (.slice (some ⟨g', 0, none⟩) xs.length c')
  have cR2 : (w1.setCell ⟨w.heap.size + 1, 0, none⟩ (.slice (some ⟨g', 0, none⟩) xs.length c')).cell? ⟨w.heap.size + 1, 0, none⟩ = some (.slice (some ⟨g', 0, none⟩) xs.length c') := (heap_cell bR2 0).trans rfl
  have HO := Hid.intro (hO.of (heap_set_ne (b := w.heap.size + 1) (i := 0) (v := .slice (some ⟨g', 0, none⟩) xs.length c') (by omega)))
  refine bodyPost_ret (v := .agg #[.slice (some ⟨g', 0, none⟩) xs.length c']) (by simp [results, Try.results89, go_sem, cR2]) rfl ⟨g', c', rfl, HO.out, h1, h2, by omega, hbb.setCell (p := ⟨w.heap.size + 1, 0, none⟩) (by simp) _⟩

end Go.Proofs.Ytlifkfemdknndaa
