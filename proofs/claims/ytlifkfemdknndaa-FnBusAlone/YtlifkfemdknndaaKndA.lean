/-
  Kinds: append of one thing to a row of its own, or to none.
-/
import Derived.Test.YtlifkfemdknndaaKndLM
import Derived.Test.YtlifkfemdknndaaORow
import Derived.Test.YtlifkfemdknndaaFacts
namespace Go.Proofs.Ytlifkfemdknndaa
open Go.RowKit
set_option linter.unusedSimpArgs false
set_option linter.unusedVariables false

/-- none, or a row of its own -/
def RowN (E s : Nat) (w : World) (p : Option Addr) (cap n : Nat) (cs : List Value) : Prop := (p = none ∧ cap = 0 ∧ n = 0 ∧ cs = []) ∨ ∃ g, p = some ⟨g, 0, none⟩ ∧ ORow E s w g cap n cs ∧ cap ≤ maxLen
theorem RowN.of {E s : Nat} {w w' : World} {p : Option Addr} {cap n : Nat} {cs : List Value} (h : RowN E s w p cap n cs) (hb : ∀ b, p = some ⟨b, 0, none⟩ → b < w.heap.size → w'.heap[b]? = w.heap[b]?) : RowN E s w' p cap n cs := by
  rcases h with h | ⟨g, e, hO, hc⟩
  · exact .inl h
  · exact .inr ⟨g, e, hO.of (hb g e hO.lt), hc⟩

theorem run_appK {α β : Type} {K : Knd α β} (hK : KLaw K) {T E : TypeId} {i : TypeInfo} {z : Value} {by_ : Nat} (hu : Try.prog.underlying T = some (.slice E)) (hi : Try.prog.info? E = some i) (hz : i.zero = some z) (hsz : i.size = K.sz) (hby : i.bytes = by_) (hzs : z.cells.size = K.sz) (hbb : by_ ≤ 1000)
    {ρ : Operand → Value} {o : Oper} {w : World} {s x n cap c b : Nat} {p : Option Addr} (ys : List α) (q : α)
    (ho : o.op = .call { callee := .builtin .append, args := #[.tmp s, .tmp x], argTypes := #[T, T] }) (hs : ρ (.tmp s) = .slice p n cap) (hn : n = ys.length) (hW : RowN E K.sz w p cap n (ys.flatMap K.cells))
    (hx : ρ (.tmp x) = .slice (some ⟨b, 0, none⟩) 1 c) (hY : ∀ j v, (K.cells q)[j]? = some v → w.cell? ⟨b, j, none⟩ = some v) (hlen : n ≤ 2000000) :
    ∃ g' cap' w', (execOp ρ o).run Try.prog w = .ok (.value (.slice (some ⟨g', 0, none⟩) (n + 1) cap')) w' ∧ ORow E K.sz w' g' cap' (n + 1) ((ys ++ [q]).flatMap K.cells) ∧ cap' ≤ maxLen ∧ (p = some ⟨g', 0, none⟩ ∨ w.heap.size ≤ g') ∧ Kept (fun k => p = some ⟨k, 0, none⟩) w w' := by
  have hnews : ∀ (j : Nat) (u : Value), (K.cells q)[j]? = some u → w.cell? ((⟨b, 0, none⟩ : Addr).add j) = some u := fun j u hj => by
    have e1 : ((⟨b, 0, none⟩ : Addr).add j) = ⟨b, j, none⟩ := by unfold Addr.add; split <;> simp_all
    rw [e1]; exact hY j u hj
  have hl : (K.cells q).length = 1 * K.sz := by rw [hK.len, Nat.one_mul]
  have hsn : (ys ++ [q]).flatMap K.cells = ys.flatMap K.cells ++ K.cells q := by simp
  have hby' : (n + 1) * by_ ≤ 140737488355328 := by
    have := Nat.mul_le_mul (show n + 1 ≤ 2000001 by omega) hbb
    omega
  rcases hW with ⟨rfl, rfl, rfl, hcs⟩ | ⟨g, rfl, hO, hc⟩
  · obtain ⟨v', w', hrun, hown, hgr, hnil⟩ := run_append_own (P := Try.prog) w w.heap.size T o.type E i z K.sz by_ hu hi hz hsz hby hzs hK.pos (.slice none 0 0) 0 [] (World.ownsRow_nil w w.heap.size E K.sz) ⟨b, 0, none⟩ 1 c (K.cells q) hl hnews (hK.one q) (by unfold maxLen; omega) (by simpa using hby') (Nat.le_refl _)
    obtain ⟨hl', hv | ⟨g', cap', cur', hv, q1, q2, q3, q4, q5, q6⟩⟩ := hown
    · exact absurd (hnil.1 hv.1).2 (by omega)
    · subst hv
      refine ⟨g', cap', w', ?_, ⟨cur', q2, q5, by omega, ?_, ?_⟩, q4, .inr q1, ⟨hgr.os, hgr.tape, hgr.output, hgr.size, fun k hk _ => hgr.block k hk (by simp [Value.ownBlock])⟩⟩
      · unfold execOp
        simp only [ho, resolve, invoke, builtin, Sem.run_bind, Sem.run_pure, Result.andThen_ok, List.map_toArray, List.map_cons, List.map_nil, hs, hx, hrun, Nat.zero_add]
      · rw [hsn, hcs]; simpa using hl
      · rw [hsn, hcs]; simpa using q6
  · obtain ⟨g', cap', w', e, hO', hc', hG, hg', _⟩ := run_append_rows (P := Try.prog) (w := w) (ρ := ρ) (o := o) (xs := ys.flatMap K.cells) (ys := K.cells q) T E i z K.sz by_ hu hi hz hsz hby hzs hK.pos ho hs hO hx hl hnews (hK.one q) hc (by unfold maxLen; omega) hby'
    rw [← hsn] at hO'
    refine ⟨g', cap', w', e, hO', hc', ?_, ⟨hG.os, hG.tape, hG.output, hG.size, fun k hk hd => hG.block k hk (fun e => hd (by rw [e]))⟩⟩
    rcases hg' with rfl | hg'
    · exact .inl rfl
    · exact .inr hg'

theorem wpList_appK {α β : Type} {K : Knd α β} (hK : KLaw K) {T E : TypeId} {i : TypeInfo} {z : Value} {by_ : Nat} (hu : Try.prog.underlying T = some (.slice E)) (hi : Try.prog.info? E = some i) (hz : i.zero = some z) (hsz : i.size = K.sz) (hby : i.bytes = by_) (hzs : z.cells.size = K.sz) (hbb : by_ ≤ 1000)
    {ops : Array Oper} {rest : List Oper} {o : Oper} {a : Act} {Q : Exit → Act → World → Prop} {w : World} {s x n cap c b : Nat} {p : Option Addr} (ys : List α) (q : α) (hg : o.guard = none)
    (ho : o.op = .call { callee := .builtin .append, args := #[.tmp s, .tmp x], argTypes := #[T, T] }) (hs : a.eval (.tmp s) = .slice p n cap) (hn : n = ys.length) (hW : RowN E K.sz w p cap n (ys.flatMap K.cells))
    (hx : a.eval (.tmp x) = .slice (some ⟨b, 0, none⟩) 1 c) (hY : ∀ j v, (K.cells q)[j]? = some v → w.cell? ⟨b, j, none⟩ = some v) (hlen : n ≤ 2000000)
    (h : ∀ g' cap' w', ORow E K.sz w' g' cap' (n + 1) ((ys ++ [q]).flatMap K.cells) → cap' ≤ maxLen → (p = some ⟨g', 0, none⟩ ∨ w.heap.size ≤ g') → Kept (fun k => p = some ⟨k, 0, none⟩) w w' → wpList Try.prog ops Q rest (a.put o.dst (.slice (some ⟨g', 0, none⟩) (n + 1) cap')) w') : wpList Try.prog ops Q (o :: rest) a w := by
  refine wpList_plain hg (fun KK hKK => ?_)
  obtain ⟨g', cap', w', e, h1, h2, h3, h4⟩ := run_appK hK hu hi hz hsz hby hzs hbb (ρ := a.eval) ys q ho hs hn hW hx hY hlen
  unfold Oper.wp
  rw [e]
  exact hKK _ _ (h g' cap' w' h1 h2 h3 h4)

/-- behind an append to what is new all that is old lies as it lay -/
theorem old_keptK {B : Nat} {w w1 w2 w3 : World} {p : Option Addr} (h : Below B w w1) (hb : Below w1.heap.size w1 w2) (hk : Kept (fun k => p = some ⟨k, 0, none⟩) w2 w3) (hp : ∀ x, p = some ⟨x, 0, none⟩ → B ≤ x) (hs : B ≤ w1.heap.size) : Below B w w3 :=
  have h2 := h.trans (hb.mono hs)
  ⟨hk.os.trans h2.os, hk.tape.trans h2.tape, hk.output.trans h2.output, Nat.le_trans h2.size hk.size, fun k hlt => (hk.block k (by have := hb.size; omega) (fun hd => by have := hp k hd; omega)).trans (h2.block k hlt)⟩

theorem tu_appK {α β : Type} {K : Knd α β} (hK : KLaw K) {T E : TypeId} {i : TypeInfo} {z : Value} {by_ : Nat} (hu : Try.prog.underlying T = some (.slice E)) (hi : Try.prog.info? E = some i) (hz : i.zero = some z) (hsz : i.size = K.sz) (hby : i.bytes = by_) (hzs : z.cells.size = K.sz) (hbb : by_ ≤ 1000)
    {ρ : Operand → Value} {o : Oper} {w : World} {s x n cap c b : Nat} {p : Option Addr} {F : World → Value → Prop} (ys : List α) (q : α)
    (ho : o.op = .call { callee := .builtin .append, args := #[.tmp s, .tmp x], argTypes := #[T, T] }) (hs : ρ (.tmp s) = .slice p n cap) (hn : n = ys.length) (hW : RowN E K.sz w p cap n (ys.flatMap K.cells))
    (hx : ρ (.tmp x) = .slice (some ⟨b, 0, none⟩) 1 c) (hY : ∀ j v, (K.cells q)[j]? = some v → w.cell? ⟨b, j, none⟩ = some v) (hlen : n ≤ 2000000)
    (h : ∀ g' cap' w', ORow E K.sz w' g' cap' (n + 1) ((ys ++ [q]).flatMap K.cells) → cap' ≤ maxLen → (p = some ⟨g', 0, none⟩ ∨ w.heap.size ≤ g') → Kept (fun k => p = some ⟨k, 0, none⟩) w w' → F w' (.slice (some ⟨g', 0, none⟩) (n + 1) cap')) : tyUpon Try.prog F ((execOp ρ o).run Try.prog w) := by
  obtain ⟨g', cap', w', e, h1, h2, h3, h4⟩ := run_appK hK hu hi hz hsz hby hzs hbb ys q ho hs hn hW hx hY hlen
  rw [e]
  exact h g' cap' w' h1 h2 h3 h4

end Go.Proofs.Ytlifkfemdknndaa
