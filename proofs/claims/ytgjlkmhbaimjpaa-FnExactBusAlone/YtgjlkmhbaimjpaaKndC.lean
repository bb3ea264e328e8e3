/-
  Kinds: a copy of numbers by append, to none or to an empty row.
-/
import Derived.Test.YtgjlkmhbaimjpaaKndI
import Derived.Test.YtgjlkmhbaimjpaaAppS
namespace Go.Proofs.Ytgjlkmhbaimjpaa
open Go.RowKit
set_option linter.unusedSimpArgs false
set_option linter.unusedVariables false

/-- none, or an empty row -/
def Empt (w : World) (p : Option Addr) : Prop := p = none ∨ ∃ g, p = some ⟨g, 0, none⟩ ∧ w.heap[g]? = some (.cells #[] 3 (0, 0))
theorem run_copyI {ρ : Operand → Value} {o : Oper} {w : World} {S X : Operand} {p0 p : Option Addr} {c : Nat} {ys : List Int}
    (ho : o.op = .call { callee := .builtin .append, args := #[S, X], argTypes := #[23, 23] })
    (hs : ρ S = .slice p0 0 0) (hE : Empt w p0) (hx : ρ X = .slice p ys.length c) (hY : IntsAt w p ys) (hlen : ys.length ≤ 2000000) :
    ∃ a' w', (execOp ρ o).run Try.prog w = .ok (.value (yI.val a')) w' ∧ a'.l = ys ∧ Fresh yI (match p0 with | some x => min x.block w.heap.size | none => w.heap.size) w' a' ∧ (ys ≠ [] → Fresh yI w.heap.size w' a') ∧ Gr w w' := by
  obtain ⟨i0, hi, hz0, hz1, hz2⟩ := info_parts Try.infoInt
  by_cases hy : ys = []
  · subst hy
    have hrun : (Builtin.append_ #[23, 23] o.type #[.slice p0 0 0, .slice p 0 c]).run Try.prog w = .ok (.slice p0 0 0) w := by
      cases p <;> cases p0 <;> simp [Builtin.append_, run_underlying Try.underlying23, sizeOf, typeInfo, hi, Builtin.lenOf, Builtin.firstCells, loadCells, loadCellsFrom, storeCells]
    refine ⟨⟨p0, 0, []⟩, w, ?_, rfl, ⟨yI_law.zow w |> fun h => ⟨Nat.le_refl _, by simp, .inl rfl, fun _ h => by simp at h⟩, by rw [yI_foot]; exact blk_nodup _, fun b hb => by rw [yI_foot] at hb; simp [blk] at hb⟩, fun h => absurd rfl h, Gr.refl _⟩
    unfold execOp
    simp only [ho, resolve, invoke, builtin, Sem.run_bind, Sem.run_pure, Result.andThen_ok, List.map_toArray, List.map_cons, List.map_nil, hs, hx, List.length_nil, hrun]
    rfl
  · obtain ⟨b, off, rfl, hb, hcells⟩ : ∃ b off, p = some ⟨b, off, none⟩ ∧ b < w.heap.size ∧ ∀ k (h : k < ys.length), w.cell? ⟨b, off + k, none⟩ = some (.int .i64 ys[k]) := by
      rcases hY with h | h
      · exact absurd h hy
      · exact h
    have hown : w.ownsRow 0 3 1 (.slice p0 0 0) 0 [] := by
      rcases hE with rfl | ⟨g, rfl, hg⟩
      · exact World.ownsRow_nil w 0 3 1
      · exact ⟨rfl, .inr ⟨g, 0, #[], rfl, Nat.zero_le _, hg, Nat.le_refl _, Nat.zero_le _, rfl, rfl⟩⟩
    have hpos : 0 < ys.length := List.length_pos_iff.2 hy
    have hnews : ∀ (j : Nat) (u : Value), (ys.map (Value.int .i64))[j]? = some u → w.cell? ((⟨b, off, none⟩ : Addr).add j) = some u := news_ints (.inr ⟨b, off, rfl, hb, hcells⟩)
    rcases hE with rfl | ⟨g, rfl, hg⟩
    · obtain ⟨v', w', hrun, hown', hgr, hnil⟩ := run_append_own (P := Try.prog) w w.heap.size 23 o.type 3 i0 _ 1 8 Try.underlying23 hi hz0 hz1 hz2 rfl (by omega) (.slice none 0 0) 0 [] (World.ownsRow_nil w w.heap.size 3 1) ⟨b, off, none⟩ ys.length c (ys.map (Value.int .i64)) (by simp) hnews (by simp [Value.oneCell']) (by unfold maxLen; omega) (by omega) (Nat.le_refl _)
      obtain ⟨hl', hv | ⟨g', cap', cur', hv, q1, q2, q3, q4, q5, q6⟩⟩ := hown'
      · exact absurd (hnil.1 hv.1).2 (by omega)
      · subst hv
        have hO : ORow 3 1 w' g' cap' ys.length (ys.map (Value.int .i64)) := ⟨cur', q2, q5, by omega, by simp, by simpa using q6⟩
        have hF : Fresh yI w.heap.size w' ⟨some ⟨g', 0, none⟩, cap', ys⟩ := ⟨yI_ow.2 ⟨by simp only; omega, by unfold maxLen at q4; exact q4, .inr ⟨g', rfl, hO⟩⟩, by rw [yI_foot]; exact blk_nodup _, fun x hx => by
          rw [yI_foot] at hx
          obtain ⟨_, y, e, e'⟩ := blk_mem hx
          cases e; simp only at e'; omega⟩
        refine ⟨⟨some ⟨g', 0, none⟩, cap', ys⟩, w', ?_, rfl, hF, fun _ => hF, ⟨hgr.os, hgr.tape, hgr.output, hgr.size, fun k hk => hgr.block k hk (by simp [Value.ownBlock])⟩⟩
        unfold execOp
        simp only [ho, resolve, invoke, builtin, Sem.run_bind, Sem.run_pure, Result.andThen_ok, List.map_toArray, List.map_cons, List.map_nil, hs, hx, hrun, Nat.zero_add]
        rfl
    · obtain ⟨v', w', hrun, r1, r2⟩ := run_append_arg_grows (P := Try.prog) w 23 o.type 3 i0 _ 1 8 Try.underlying23 hi hz0 hz1 hz2 rfl (by omega) ⟨g, 0, none⟩ 0 0 [] rfl (fun j u hj => by simp at hj) ⟨b, off, none⟩ ys.length c (ys.map (Value.int .i64)) (by simp) hnews (by omega) (by unfold maxLen; omega) (by omega)
      obtain ⟨hlen', hn | ⟨g', cap', cur', hv, k1, k2, k3, k4, k5, k6⟩⟩ := r1
      · omega
      · subst hv
        have hO : ORow 3 1 w' g' cap' ys.length (ys.map (Value.int .i64)) := ⟨cur', k2, k5, by omega, by simp, by simpa using k6⟩
        have hF : Fresh yI w.heap.size w' ⟨some ⟨g', 0, none⟩, cap', ys⟩ := ⟨yI_ow.2 ⟨by simp only; omega, by unfold maxLen at k4; exact k4, .inr ⟨g', rfl, hO⟩⟩, by rw [yI_foot]; exact blk_nodup _, fun x hx => by
          rw [yI_foot] at hx
          obtain ⟨_, y, e, e'⟩ := blk_mem hx
          cases e; simp only at e'; omega⟩
        refine ⟨⟨some ⟨g', 0, none⟩, cap', ys⟩, w', ?_, rfl, hF.mono (by simp only; omega), fun _ => hF, ⟨r2.os, r2.tape, r2.output, r2.size, fun k hk => r2.block k hk (by simp)⟩⟩
        unfold execOp
        simp only [ho, resolve, invoke, builtin, Sem.run_bind, Sem.run_pure, Result.andThen_ok, List.map_toArray, List.map_cons, List.map_nil, hs, hx, hrun, Nat.zero_add]
        rfl

theorem wpList_copyN {ops : Array Oper} {rest : List Oper} {o : Oper} {a : Act} {Q : Exit → Act → World → Prop} {w : World} {S X : Operand} {p : Option Addr} {c : Nat} (ys : List Int) (hg : o.guard = none)
    (ho : o.op = .call { callee := .builtin .append, args := #[S, X], argTypes := #[23, 23] })
    (hs : a.eval S = .slice none 0 0) (hx : a.eval X = .slice p ys.length c) (hY : IntsAt w p ys) (hlen : ys.length ≤ 2000000)
    (h : ∀ p' c' w', Fresh yI w.heap.size w' ⟨p', c', ys⟩ → Gr w w' → wpList Try.prog ops Q rest (a.put o.dst (.slice p' ys.length c')) w') : wpList Try.prog ops Q (o :: rest) a w := by
  refine wpList_plain hg (fun K hK => ?_)
  obtain ⟨⟨p', c', l'⟩, w', r1, r2, r3, _, r5⟩ := run_copyI (ρ := a.eval) ho hs (.inl rfl) hx hY hlen
  simp only at r2
  subst r2
  unfold Oper.wp
  rw [r1]
  exact hK _ _ (h p' c' w' r3 r5)

theorem tv_copyI {ρ : Operand → Value} {o : Oper} {w : World} {S X : Operand} {p0 p : Option Addr} {c : Nat} {ys : List Int} {P : Value → World → Prop}
    (ho : o.op = .call { callee := .builtin .append, args := #[S, X], argTypes := #[23, 23] })
    (hs : ρ S = .slice p0 0 0) (hE : Empt w p0) (hx : ρ X = .slice p ys.length c) (hY : IntsAt w p ys) (hlen : ys.length ≤ 2000000)
    (h : ∀ p' c' w', (yI.ow w' ⟨p', c', ys⟩ ∧ ∀ M, M ≤ w.heap.size → Fresh yI M w' ⟨p', c', ys⟩) → Gr w w' → P (.slice p' ys.length c') w') : ∃ v w', (execOp ρ o).run Try.prog w = .ok (.value v) w' ∧ P v w' := by
  obtain ⟨⟨p', c', l'⟩, w', r1, r2, r3, r4, r5⟩ := run_copyI ho hs hE hx hY hlen
  simp only at r2
  subst r2
  refine ⟨_, w', r1, h p' c' w' ⟨r3.ow, fun M hM => ?_⟩ r5⟩
  by_cases h0 : l' = []
  · exact ⟨r3.ow, r3.nd, fun b hb => by rw [yI_foot] at hb; exact absurd h0 (blk_mem hb).1⟩
  · exact (r4 h0).mono hM

end Go.Proofs.Ytgjlkmhbaimjpaa
