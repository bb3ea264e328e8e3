/-
  append of ints, as the walk meets it: a row of its own and whatever ints.
-/
import Derived.Test.YtlifkfemdknndaaProg
import Derived.Test.YtlifkfemdknndaaIRow
import Derived.Test.YtlifkfemdknndaaIntsM
import Derived.Test.YtlifkfemdknndaaPInt
namespace Go.Proofs.Ytlifkfemdknndaa
open Go.RowKit
set_option linter.unusedSimpArgs false
set_option linter.unusedVariables false

theorem news_ints {w : World} {b off : Nat} {xs : List Int} (h : IntsAt w (some ⟨b, off, none⟩) xs) : ∀ (j : Nat) (u : Value), (xs.map (Value.int .i64))[j]? = some u → w.cell? ((⟨b, off, none⟩ : Addr).add j) = some u := by
  intro j u hj
  have hlt : j < xs.length := by have := (List.getElem?_eq_some_iff.1 hj).1; simpa using this
  rcases h with h | ⟨b', off', e, h2, h3⟩
  · subst h; simp at hlt
  · cases e
    have hadd : (⟨b, off, none⟩ : Addr).add j = ⟨b, off + j, none⟩ := by unfold Addr.add; split <;> simp_all
    rw [hadd, h3 j hlt]
    simpa [hlt] using hj

/-- behind an append: a row of its own; only its old block, or none, has turned -/
def AppPost (w : World) (g : Nat) (zs : List Int) (v : Value) (w' : World) : Prop := ∃ g' cap', v = .slice (some ⟨g', 0, none⟩) zs.length cap' ∧ ORow 3 1 w' g' cap' zs.length (zs.map (Value.int .i64)) ∧ zs.length ≤ cap' ∧ cap' ≤ 9223372036854775807 ∧ (g' = g ∨ w.heap.size ≤ g') ∧ Grew w w' g
theorem AppPost.below {w w' : World} {g n : Nat} {zs : List Int} {v : Value} (h : AppPost w g zs v w') (hn : n ≤ g) (hs : n ≤ w.heap.size) : Below n w w' := by
  obtain ⟨g', cap', _, _, _, _, _, hG⟩ := h
  exact ⟨hG.os, hG.tape, hG.output, hG.size, fun k hk => hG.block k (by omega) (by omega)⟩

theorem run_app_some {ρ : Operand → Value} {o : Oper} {w : World} {s x g cap : Nat} {p : Option Addr} {c : Nat} {xs ys : List Int}
    (ho : o.op = .call { callee := .builtin .append, args := #[.tmp s, .tmp x], argTypes := #[24, 24] })
    (hs : ρ (.tmp s) = .slice (some ⟨g, 0, none⟩) xs.length cap) (hW : ORow 3 1 w g cap xs.length (xs.map (Value.int .i64))) (hcap : cap ≤ maxLen) (hx : ρ (.tmp x) = .slice p ys.length c) (hY : IntsAt w p ys) (hlen : xs.length + ys.length ≤ 100000) :
    ∃ v w', (execOp ρ o).run Try.prog w = .ok (.value v) w' ∧ AppPost w g (xs ++ ys) v w' := by
  obtain ⟨i0, hi, hz0, hz1, hz2⟩ := info_parts Try.infoInt
  have hcl : xs.length ≤ cap := by obtain ⟨_, _, _, h, _⟩ := hW; exact h
  by_cases hp : ∃ b off, p = some ⟨b, off, none⟩
  · obtain ⟨b, off, rfl⟩ := hp
    obtain ⟨g', cap', w', e, hO, hc', hG, hg', _⟩ := run_append_rows (P := Try.prog) (w := w) (ρ := ρ) (o := o) (xs := xs.map (Value.int .i64)) (ys := ys.map (Value.int .i64)) 24 3 i0 _ 1 8 Try.underlying24 hi hz0 hz1 hz2 rfl (by omega) ho hs hW hx (by simp) (news_ints hY) (by simp [Value.oneCell']) hcap (by unfold maxLen; omega) (by omega)
    have hO' : ORow 3 1 w' g' cap' (xs ++ ys).length ((xs ++ ys).map (Value.int .i64)) := by simpa using hO
    have hcl' : (xs ++ ys).length ≤ cap' := by obtain ⟨_, _, _, h, _⟩ := hO'; exact h
    exact ⟨_, w', e, g', cap', by simp, hO', hcl', by unfold maxLen at hc'; omega, hg', hG⟩
  · have hy : ys = [] := by
      rcases hY with h | ⟨b, off, h, _⟩
      · exact h
      · exact absurd ⟨b, off, h⟩ hp
    subst hy
    have hrun : (Builtin.append_ #[24, 24] o.type #[.slice (some ⟨g, 0, none⟩) xs.length cap, .slice p 0 c]).run Try.prog w = .ok (.slice (some ⟨g, 0, none⟩) xs.length cap) w := by
      cases p with
      | none => simp [Builtin.append_, run_underlying Try.underlying24, sizeOf, typeInfo, hi, Builtin.lenOf, Builtin.firstCells, loadCells, loadCellsFrom, hcl, storeCells]
      | some a => simp [Builtin.append_, run_underlying Try.underlying24, sizeOf, typeInfo, hi, Builtin.lenOf, Builtin.firstCells, loadCells, loadCellsFrom, hcl, storeCells]
    refine ⟨.slice (some ⟨g, 0, none⟩) xs.length cap, w, ?_, g, cap, by simp, by simpa using hW, by simpa using hcl, by unfold maxLen at hcap; omega, .inl rfl, ⟨rfl, rfl, rfl, Nat.le_refl _, fun _ _ _ => rfl⟩⟩
    unfold execOp
    simp only [ho, resolve, invoke, builtin, Sem.run_bind, Sem.run_pure, Result.andThen_ok, List.map_toArray, List.map_cons, List.map_nil, hs, hx, List.length_nil, hrun]

theorem wpList_app {ops : Array Oper} {rest : List Oper} {o : Oper} {a : Act} {Q : Exit → Act → World → Prop} {w : World} {s x g cap : Nat} {p : Option Addr} {c : Nat} (xs ys : List Int) (hg : o.guard = none)
    (ho : o.op = .call { callee := .builtin .append, args := #[.tmp s, .tmp x], argTypes := #[24, 24] })
    (hs : a.eval (.tmp s) = .slice (some ⟨g, 0, none⟩) xs.length cap) (hW : ORow 3 1 w g cap xs.length (xs.map (Value.int .i64))) (hcap : cap ≤ maxLen) (hx : a.eval (.tmp x) = .slice p ys.length c) (hY : IntsAt w p ys) (hlen : xs.length + ys.length ≤ 100000)
    (h : ∀ v w', AppPost w g (xs ++ ys) v w' → wpList Try.prog ops Q rest (a.put o.dst v) w') : wpList Try.prog ops Q (o :: rest) a w := by
  refine wpList_plain hg (fun K hK => ?_)
  obtain ⟨v, w', r1, r2⟩ := run_app_some (ρ := a.eval) ho hs hW hcap hx hY hlen
  unfold Oper.wp
  rw [r1]
  exact hK _ _ (h v w' r2)

/-- an empty row of its own -/
theorem ORow.empty {w : World} : ORow 3 1 (w.alloc (.cells #[] 3)) w.heap.size 0 ([] : List Int).length (([] : List Int).map (Value.int .i64)) :=
  ⟨#[], by show (w.heap.push _)[w.heap.size]? = _; simp, rfl, Nat.le_refl _, rfl, rfl⟩
theorem ORow.emptyAt {w : World} {g : Nat} (h : g = w.heap.size) : ORow 3 1 (w.alloc (.cells #[] 3)) g 0 ([] : List Int).length (([] : List Int).map (Value.int .i64)) := by subst h; exact ORow.empty
/-- a row of one -/
theorem ORow.one {w : World} (x : Int) : ORow 3 1 (w.alloc (.cells #[.int .i64 x] 3)) w.heap.size 1 [x].length ([x].map (Value.int .i64)) :=
  ⟨#[.int .i64 x], by show (w.heap.push _)[w.heap.size]? = _; simp, rfl, Nat.le_refl _, rfl, rfl⟩

end Go.Proofs.Ytlifkfemdknndaa
