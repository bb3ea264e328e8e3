/-
  Kinds: a copy of things without rows of their own by append, to none or to an empty row.
-/
import Derived.Test.YtgjlkmhbaimjpaaKndA
import Derived.Test.YtgjlkmhbaimjpaaKndX
namespace Go.Proofs.Ytgjlkmhbaimjpaa
open Go.RowKit
set_option linter.unusedSimpArgs false
set_option linter.unusedVariables false

/-- none, or an empty row -/
def EmptK (E : Nat) (w : World) (p : Option Addr) : Prop := p = none ∨ ∃ g, p = some ⟨g, 0, none⟩ ∧ w.heap[g]? = some (.cells #[] E (0, 0))
theorem addr_add (b off j : Nat) : ((⟨b, off, none⟩ : Addr).add j) = ⟨b, off + j, none⟩ := by unfold Addr.add; split <;> simp_all
theorem news_rd {α β : Type} {K : Knd α β} (hK : KLaw K) {E : Nat} {w : World} {a : Lst α} (h : (gLst E K).rd w a) (h0 : a.l ≠ []) : ∃ b off, a.p = some ⟨b, off, none⟩ ∧ ∀ (j : Nat) (u : Value), (a.l.flatMap K.cells)[j]? = some u → w.cell? ((⟨b, off, none⟩ : Addr).add j) = some u := by
  obtain ⟨_, _, h3, _⟩ := h
  rcases h3 with h3 | ⟨b, off, e, hlt, hc⟩
  · exact absurd h3 h0
  refine ⟨b, off, e, fun j u hj => ?_⟩
  have hlen := (List.getElem?_eq_some_iff.1 hj).1
  rw [flat_len hK.len] at hlen
  have hs0 := hK.pos
  have hk : j / K.sz < a.l.length := Nat.div_lt_of_lt_mul (by rw [Nat.mul_comm]; exact hlen)
  have hr : j % K.sz < K.sz := Nat.mod_lt _ hs0
  have e1 : j = (j / K.sz) * K.sz + j % K.sz := by rw [Nat.mul_comm]; exact (Nat.div_add_mod j _).symm
  have e2 : ((⟨b, off, none⟩ : Addr).add j) = ⟨b, off + j, none⟩ := addr_add b off j
  rw [e2]
  have h5 := hc _ hk (j % K.sz) u (by rw [e1, flat_get hK.len _ _ _ hk hr] at hj; exact hj)
  rw [Nat.add_assoc, ← e1] at h5
  exact h5
theorem foot_flat {α β : Type} {K : Knd α β} (hfoot : ∀ a, K.foot a = []) (E : Nat) (a : Lst α) : (gLst E K).foot a = blk a := by
  show blk a ++ a.l.flatMap K.foot = _
  have : a.l.flatMap K.foot = [] := by
    rw [List.flatMap_eq_nil_iff]; exact fun x _ => hfoot x
  rw [this]; simp
theorem nodup_blk {α : Type} (a : Lst α) : (blk a).Nodup := by unfold blk; split <;> simp

theorem run_copyK {α β : Type} {K : Knd α β} (hK : KLaw K) (hflat : ∀ w a, K.ow w a) (hfoot : ∀ a, K.foot a = []) {T E : TypeId} {i : TypeInfo} {z : Value} {by_ : Nat} (hu : Try.prog.underlying T = some (.slice E)) (hi : Try.prog.info? E = some i) (hz : i.zero = some z) (hsz : i.size = K.sz) (hby : i.bytes = by_) (hzs : z.cells.size = K.sz) (hbb : by_ ≤ 1000)
    {ρ : Operand → Value} {o : Oper} {w : World} {S X : Operand} {p0 p : Option Addr} {c : Nat} {ys : List α}
    (ho : o.op = .call { callee := .builtin .append, args := #[S, X], argTypes := #[T, T] })
    (hs : ρ S = .slice p0 0 0) (hE : EmptK E w p0) (hx : ρ X = .slice p ys.length c) (hY : (gLst E K).rd w ⟨p, c, ys⟩) (hlen : ys.length ≤ 2000000) :
    ∃ a' w', (execOp ρ o).run Try.prog w = .ok (.value ((gLst E K).val a')) w' ∧ a'.l = ys ∧ Fresh (gLst E K) (match p0 with | some x => min x.block w.heap.size | none => w.heap.size) w' a' ∧ (ys ≠ [] → Fresh (gLst E K) w.heap.size w' a') ∧ Gr w w' := by
  by_cases hy : ys = []
  · subst hy
    have hrun : (Builtin.append_ #[T, T] o.type #[.slice p0 0 0, .slice p 0 c]).run Try.prog w = .ok (.slice p0 0 0) w := by
      cases p <;> cases p0 <;> simp [Builtin.append_, run_underlying hu, sizeOf, typeInfo, hi, Builtin.lenOf, Builtin.firstCells, loadCells, loadCellsFrom, storeCells]
    refine ⟨⟨p0, 0, []⟩, w, ?_, rfl, ⟨⟨Nat.le_refl _, by simp, .inl rfl, fun _ h => by simp at h⟩, by rw [foot_flat hfoot]; exact nodup_blk _, fun b hb => by rw [foot_flat hfoot] at hb; simp [blk] at hb⟩, fun h => absurd rfl h, Gr.refl _⟩
    unfold execOp
    simp only [ho, resolve, invoke, builtin, Sem.run_bind, Sem.run_pure, Result.andThen_ok, List.map_toArray, List.map_cons, List.map_nil, hs, hx, List.length_nil, hrun]
    rfl
  · obtain ⟨b, off, hp, hnews⟩ := news_rd hK hY hy
    simp only at hp hnews
    subst hp
    have hl : (ys.flatMap K.cells).length = ys.length * K.sz := flat_len hK.len ys
    have hone : ∀ v ∈ ys.flatMap K.cells, v.oneCell' = true := fun v hv => by
      obtain ⟨x, _, h⟩ := List.mem_flatMap.1 hv
      exact hK.one x v h
    have hpos : 0 < ys.length := List.length_pos_iff.2 hy
    have hby' : ys.length * by_ ≤ 140737488355328 := by
      have := Nat.mul_le_mul hlen hbb
      omega
    have fr : ∀ (g' cap' : Nat) (cur' : Array Value) (w' : World), w'.heap[g']? = some (.cells cur' E (0, 0)) → cap' ≤ maxLen → cur'.size = cap' * K.sz → ys.length ≤ cap' → cur'.toList.take (ys.length * K.sz) = ys.flatMap K.cells → ∀ M, M ≤ g' → Fresh (gLst E K) M w' ⟨some ⟨g', 0, none⟩, cap', ys⟩ := fun g' cap' cur' w' k1 k2 k3 k4 k5 M hM =>
      ⟨⟨k4, by unfold maxLen at k2; exact k2, .inr ⟨g', rfl, ⟨cur', k1, k3, k4, hl, k5⟩⟩, fun x _ => hflat w' x⟩, by rw [foot_flat hfoot]; exact nodup_blk _, fun x hx => by
        rw [foot_flat hfoot, blk_of (a := ⟨some ⟨g', 0, none⟩, cap', ys⟩) hy rfl] at hx
        simp at hx; subst hx; exact hM⟩
    rcases hE with rfl | ⟨g, rfl, hg⟩
    · obtain ⟨v', w', hrun, hown', hgr, hnil⟩ := run_append_own (P := Try.prog) w w.heap.size T o.type E i z K.sz by_ hu hi hz hsz hby hzs hK.pos (.slice none 0 0) 0 [] (World.ownsRow_nil w w.heap.size E K.sz) ⟨b, off, none⟩ ys.length c (ys.flatMap K.cells) hl hnews hone (by unfold maxLen; omega) (by simpa using hby') (Nat.le_refl _)
      obtain ⟨hl', hv | ⟨g', cap', cur', hv, q1, q2, q3, q4, q5, q6⟩⟩ := hown'
      · exact absurd (hnil.1 hv.1).2 (by omega)
      · subst hv
        have hF := fr g' cap' cur' w' q2 q4 q5 (by omega) (by simpa using q6) w.heap.size q1
        refine ⟨⟨some ⟨g', 0, none⟩, cap', ys⟩, w', ?_, rfl, hF, fun _ => hF, ⟨hgr.os, hgr.tape, hgr.output, hgr.size, fun k hk => hgr.block k hk (by simp [Value.ownBlock])⟩⟩
        unfold execOp
        simp only [ho, resolve, invoke, builtin, Sem.run_bind, Sem.run_pure, Result.andThen_ok, List.map_toArray, List.map_cons, List.map_nil, hs, hx, hrun, Nat.zero_add]
        rfl
    · obtain ⟨v', w', hrun, r1, r2⟩ := run_append_arg_grows (P := Try.prog) w T o.type E i z K.sz by_ hu hi hz hsz hby hzs hK.pos ⟨g, 0, none⟩ 0 0 [] (by simp) (fun j u hj => by simp at hj) ⟨b, off, none⟩ ys.length c (ys.flatMap K.cells) hl hnews (by omega) (by unfold maxLen; omega) (by simpa using hby')
      obtain ⟨hlen', hn | ⟨g', cap', cur', hv, k1, k2, k3, k4, k5, k6⟩⟩ := r1
      · omega
      · subst hv
        have hF := fr g' cap' cur' w' k2 k4 k5 (by omega) (by simpa using k6) w.heap.size k1
        refine ⟨⟨some ⟨g', 0, none⟩, cap', ys⟩, w', ?_, rfl, hF.mono (by simp only; omega), fun _ => hF, ⟨r2.os, r2.tape, r2.output, r2.size, fun k hk => r2.block k hk (by simp)⟩⟩
        unfold execOp
        simp only [ho, resolve, invoke, builtin, Sem.run_bind, Sem.run_pure, Result.andThen_ok, List.map_toArray, List.map_cons, List.map_nil, hs, hx, hrun, Nat.zero_add]
        rfl

theorem wpList_copyK {α β : Type} {K : Knd α β} (hK : KLaw K) (hflat : ∀ w a, K.ow w a) (hfoot : ∀ a, K.foot a = []) {T E : TypeId} {i : TypeInfo} {z : Value} {by_ : Nat} (hu : Try.prog.underlying T = some (.slice E)) (hi : Try.prog.info? E = some i) (hz : i.zero = some z) (hsz : i.size = K.sz) (hby : i.bytes = by_) (hzs : z.cells.size = K.sz) (hbb : by_ ≤ 1000)
    {ops : Array Oper} {rest : List Oper} {o : Oper} {a : Act} {Q : Exit → Act → World → Prop} {w : World} {S X : Operand} {p : Option Addr} {c : Nat} (ys : List α) (hg : o.guard = none)
    (ho : o.op = .call { callee := .builtin .append, args := #[S, X], argTypes := #[T, T] })
    (hs : a.eval S = .slice none 0 0) (hx : a.eval X = .slice p ys.length c) (hY : (gLst E K).rd w ⟨p, c, ys⟩) (hlen : ys.length ≤ 2000000)
    (h : ∀ p' c' w', Fresh (gLst E K) w.heap.size w' ⟨p', c', ys⟩ → Gr w w' → wpList Try.prog ops Q rest (a.put o.dst (.slice p' ys.length c')) w') : wpList Try.prog ops Q (o :: rest) a w := by
  refine wpList_plain hg (fun KK hKK => ?_)
  obtain ⟨⟨p', c', l'⟩, w', r1, r2, r3, _, r5⟩ := run_copyK hK hflat hfoot hu hi hz hsz hby hzs hbb (ρ := a.eval) ho hs (.inl rfl) hx hY hlen
  simp only at r2
  subst r2
  unfold Oper.wp
  rw [r1]
  exact hKK _ _ (h p' c' w' r3 r5)

theorem tv_copyK {α β : Type} {K : Knd α β} (hK : KLaw K) (hflat : ∀ w a, K.ow w a) (hfoot : ∀ a, K.foot a = []) {T E : TypeId} {i : TypeInfo} {z : Value} {by_ : Nat} (hu : Try.prog.underlying T = some (.slice E)) (hi : Try.prog.info? E = some i) (hz : i.zero = some z) (hsz : i.size = K.sz) (hby : i.bytes = by_) (hzs : z.cells.size = K.sz) (hbb : by_ ≤ 1000)
    {ρ : Operand → Value} {o : Oper} {w : World} {S X : Operand} {p0 p : Option Addr} {c : Nat} {ys : List α} {P : Value → World → Prop}
    (ho : o.op = .call { callee := .builtin .append, args := #[S, X], argTypes := #[T, T] })
    (hs : ρ S = .slice p0 0 0) (hE : EmptK E w p0) (hx : ρ X = .slice p ys.length c) (hY : (gLst E K).rd w ⟨p, c, ys⟩) (hlen : ys.length ≤ 2000000)
    (h : ∀ p' c' w', ((gLst E K).ow w' ⟨p', c', ys⟩ ∧ ∀ M, M ≤ w.heap.size → Fresh (gLst E K) M w' ⟨p', c', ys⟩) → Gr w w' → P (.slice p' ys.length c') w') : ∃ v w', (execOp ρ o).run Try.prog w = .ok (.value v) w' ∧ P v w' := by
  obtain ⟨⟨p', c', l'⟩, w', r1, r2, r3, r4, r5⟩ := run_copyK hK hflat hfoot hu hi hz hsz hby hzs hbb ho hs hE hx hY hlen
  simp only at r2
  subst r2
  refine ⟨_, w', r1, h p' c' w' ⟨r3.ow, fun M hM => ?_⟩ r5⟩
  by_cases h0 : l' = []
  · exact ⟨r3.ow, r3.nd, fun b hb => by rw [foot_flat hfoot] at hb; rw [blk_nil h0] at hb; simp at hb⟩
  · exact (r4 h0).mono hM

end Go.Proofs.Ytgjlkmhbaimjpaa
