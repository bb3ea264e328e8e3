/-
  Kinds: a copy of things without rows of their own by append, to none or to an empty row.
-/
import Derived.Test.YtlifkfemdknndaaKndI
import Derived.Test.YtlifkfemdknndaaAppS
import Derived.Test.YtlifkfemdknndaaKndLM
import Derived.Test.YtlifkfemdknndaaFacts
import Derived.Test.YtlifkfemdknndaaOpsXM
import Derived.Test.YtlifkfemdknndaaKndA
/-
  Kinds: a copy of numbers by append, to none or to an empty row.
-/
namespace Go.Proofs.Ytlifkfemdknndaa
open Go.RowKit
set_option linter.unusedSimpArgs false
set_option linter.unusedVariables false

/-- none, or an empty row -/
def Empt (w : World) (p : Option Addr) : Prop := p = none ∨ ∃ g, p = some ⟨g, 0, none⟩ ∧ w.heap[g]? = some (.cells #[] 3 (0, 0))
theorem run_copyI {ρ : Operand → Value} {o : Oper} {w : World} {S X : Operand} {p0 p : Option Addr} {c : Nat} {ys : List Int}
    (ho : o.op = .call { callee := .builtin .append, args := #[S, X], argTypes := #[24, 24] })
    (hs : ρ S = .slice p0 0 0) (hE : Empt w p0) (hx : ρ X = .slice p ys.length c) (hY : IntsAt w p ys) (hlen : ys.length ≤ 2000000) :
    ∃ a' w', (execOp ρ o).run Try.prog w = .ok (.value (yI.val a')) w' ∧ a'.l = ys ∧ Fresh yI (match p0 with | some x => min x.block w.heap.size | none => w.heap.size) w' a' ∧ (ys ≠ [] → Fresh yI w.heap.size w' a') ∧ Gr w w' := by
  obtain ⟨i0, hi, hz0, hz1, hz2⟩ := info_parts Try.infoInt
  by_cases hy : ys = []
  · subst hy
    have hrun : (Builtin.append_ #[24, 24] o.type #[.slice p0 0 0, .slice p 0 c]).run Try.prog w = .ok (.slice p0 0 0) w := by
      cases p <;> cases p0 <;> simp [Builtin.append_, run_underlying Try.underlying24, sizeOf, typeInfo, hi, Builtin.lenOf, Builtin.firstCells, loadCells, loadCellsFrom, storeCells]
    refine ⟨⟨p0, 0, []⟩, w, ?_, rfl, ⟨yI_law.zow w |> fun h => ⟨Nat.le_refl _, by simp, .inl rfl, fun _ h => by simp at h⟩, by rw [yI_foot]; exact blk_nodup _, fun b hb => by rw [yI_foot] at hb; simp [blk] at hb⟩, fun h => absurd rfl h, Gr.refl _⟩
    unfold execOp
    simp only [ho, resolve, invoke, builtin, Sem.run_bind, Sem.run_pure, Result.andThen_ok, List.map_toArray, List.map_cons, List.map_nil, hs, hx, List.length_nil, hrun]
    rfl
  · obtain ⟨b, off, rfl, hb, hcells⟩ : ∃ b off, p = some ⟨b, off, none⟩ ∧ b < w.heap.size ∧ ∀ k (h : k < ys.length), w.cell? ⟨b, off + k, none⟩ = some (.int .i64 ys[k]) := by
      rcases hY with h | h
      · exact absurd h hy
      · exact h
    have hown : w.ownsRow 0 3 1 (.slice p0 0 0) 0 [] := by
      rcases hE with rfl | ⟨g, rfl, hg⟩
      · exact World.ownsRow_nil w 0 3 1
      · exact ⟨rfl, .inr ⟨g, 0, #[], rfl, Nat.zero_le _, hg, Nat.le_refl _, Nat.zero_le _, rfl, rfl⟩⟩
    have hpos : 0 < ys.length := List.length_pos_iff.2 hy
    have hnews : ∀ (j : Nat) (u : Value), (ys.map (Value.int .i64))[j]? = some u → w.cell? ((⟨b, off, none⟩ : Addr).add j) = some u := news_ints (.inr ⟨b, off, rfl, hb, hcells⟩)
    rcases hE with rfl | ⟨g, rfl, hg⟩
    · obtain ⟨v', w', hrun, hown', hgr, hnil⟩ := run_append_own (P := Try.prog) w w.heap.size 24 o.type 3 i0 _ 1 8 Try.underlying24 hi hz0 hz1 hz2 rfl (by omega) (.slice none 0 0) 0 [] (World.ownsRow_nil w w.heap.size 3 1) ⟨b, off, none⟩ ys.length c (ys.map (Value.int .i64)) (by simp) hnews (by simp [Value.oneCell']) (by unfold maxLen; omega) (by omega) (Nat.le_refl _)
      obtain ⟨hl', hv | ⟨g', cap', cur', hv, q1, q2, q3, q4, q5, q6⟩⟩ := hown'
      · exact absurd (hnil.1 hv.1).2 (by omega)
      · subst hv
        have hO : ORow 3 1 w' g' cap' ys.length (ys.map (Value.int .i64)) := ⟨cur', q2, q5, by omega, by simp, by simpa using q6⟩
        have hF : Fresh yI w.heap.size w' ⟨some ⟨g', 0, none⟩, cap', ys⟩ := ⟨yI_ow.2 ⟨by simp only; omega, by unfold maxLen at q4; exact q4, .inr ⟨g', rfl, hO⟩⟩, by rw [yI_foot]; exact blk_nodup _, fun x hx => by
          rw [yI_foot] at hx
          obtain ⟨_, y, e, e'⟩ := blk_mem hx
          cases e; simp only at e'; omega⟩
        refine ⟨⟨some ⟨g', 0, none⟩, cap', ys⟩, w', ?_, rfl, hF, fun _ => hF, ⟨hgr.os, hgr.tape, hgr.output, hgr.size, fun k hk => hgr.block k hk (by simp [Value.ownBlock])⟩⟩
        unfold execOp
        simp only [ho, resolve, invoke, builtin, Sem.run_bind, Sem.run_pure, Result.andThen_ok, List.map_toArray, List.map_cons, List.map_nil, hs, hx, hrun, Nat.zero_add]
        rfl
    · obtain ⟨v', w', hrun, r1, r2⟩ := run_append_arg_grows (P := Try.prog) w 24 o.type 3 i0 _ 1 8 Try.underlying24 hi hz0 hz1 hz2 rfl (by omega) ⟨g, 0, none⟩ 0 0 [] rfl (fun j u hj => by simp at hj) ⟨b, off, none⟩ ys.length c (ys.map (Value.int .i64)) (by simp) hnews (by omega) (by unfold maxLen; omega) (by omega)
      obtain ⟨hlen', hn | ⟨g', cap', cur', hv, k1, k2, k3, k4, k5, k6⟩⟩ := r1
      · omega
      · subst hv
        have hO : ORow 3 1 w' g' cap' ys.length (ys.map (Value.int .i64)) := ⟨cur', k2, k5, by omega, by simp, by simpa using k6⟩
        have hF : Fresh yI w.heap.size w' ⟨some ⟨g', 0, none⟩, cap', ys⟩ := ⟨yI_ow.2 ⟨by simp only; omega, by unfold maxLen at k4; exact k4, .inr ⟨g', rfl, hO⟩⟩, by rw [yI_foot]; exact blk_nodup _, fun x hx => by
          rw [yI_foot] at hx
          obtain ⟨_, y, e, e'⟩ := blk_mem hx
          cases e; simp only at e'; omega⟩
        refine ⟨⟨some ⟨g', 0, none⟩, cap', ys⟩, w', ?_, rfl, hF.mono (by simp only; omega), fun _ => hF, ⟨r2.os, r2.tape, r2.output, r2.size, fun k hk => r2.block k hk (by simp)⟩⟩
        unfold execOp
        simp only [ho, resolve, invoke, builtin, Sem.run_bind, Sem.run_pure, Result.andThen_ok, List.map_toArray, List.map_cons, List.map_nil, hs, hx, hrun, Nat.zero_add]
        rfl

theorem wpList_copyN {ops : Array Oper} {rest : List Oper} {o : Oper} {a : Act} {Q : Exit → Act → World → Prop} {w : World} {S X : Operand} {p : Option Addr} {c : Nat} (ys : List Int) (hg : o.guard = none)
    (ho : o.op = .call { callee := .builtin .append, args := #[S, X], argTypes := #[24, 24] })
    (hs : a.eval S = .slice none 0 0) (hx : a.eval X = .slice p ys.length c) (hY : IntsAt w p ys) (hlen : ys.length ≤ 2000000)
    (h : ∀ p' c' w', Fresh yI w.heap.size w' ⟨p', c', ys⟩ → Gr w w' → wpList Try.prog ops Q rest (a.put o.dst (.slice p' ys.length c')) w') : wpList Try.prog ops Q (o :: rest) a w := by
  refine wpList_plain hg (fun K hK => ?_)
  obtain ⟨⟨p', c', l'⟩, w', r1, r2, r3, _, r5⟩ := run_copyI (ρ := a.eval) ho hs (.inl rfl) hx hY hlen
  simp only at r2
  subst r2
  unfold Oper.wp
  rw [r1]
  exact hK _ _ (h p' c' w' r3 r5)

theorem tv_copyI {ρ : Operand → Value} {o : Oper} {w : World} {S X : Operand} {p0 p : Option Addr} {c : Nat} {ys : List Int} {P : Value → World → Prop}
    (ho : o.op = .call { callee := .builtin .append, args := #[S, X], argTypes := #[24, 24] })
    (hs : ρ S = .slice p0 0 0) (hE : Empt w p0) (hx : ρ X = .slice p ys.length c) (hY : IntsAt w p ys) (hlen : ys.length ≤ 2000000)
    (h : ∀ p' c' w', (yI.ow w' ⟨p', c', ys⟩ ∧ ∀ M, M ≤ w.heap.size → Fresh yI M w' ⟨p', c', ys⟩) → Gr w w' → P (.slice p' ys.length c') w') : ∃ v w', (execOp ρ o).run Try.prog w = .ok (.value v) w' ∧ P v w' := by
  obtain ⟨⟨p', c', l'⟩, w', r1, r2, r3, r4, r5⟩ := run_copyI ho hs hE hx hY hlen
  simp only at r2
  subst r2
  refine ⟨_, w', r1, h p' c' w' ⟨r3.ow, fun M hM => ?_⟩ r5⟩
  by_cases h0 : l' = []
  · exact ⟨r3.ow, r3.nd, fun b hb => by rw [yI_foot] at hb; exact absurd h0 (blk_mem hb).1⟩
  · exact (r4 h0).mono hM

end Go.Proofs.Ytlifkfemdknndaa

/-
  Kinds: boxes; what several things, side by side, keep while one of them is marked; what lay before.
-/
namespace Go.Proofs.Ytlifkfemdknndaa
open Go.RowKit
set_option linter.unusedSimpArgs false
set_option linter.unusedVariables false

theorem KLaw.kt {α β : Type} {K : Knd α β} (hK : KLaw K) {w w' : World} {a : α} {t : Nat} (h : K.ow w a) (hk : KT t w w') (ht : t ∉ K.tys) : K.ow w' a := hK.ow_of h (fun b hb => by
  obtain ⟨cur, E, h1, h2⟩ := hK.ow_ty h b hb
  exact (hk.cells h2 (fun e => ht (e ▸ h1))).trans h2.symm)
theorem Fresh.kt {α β : Type} {K : Knd α β} (hK : KLaw K) {M : Nat} {w w' : World} {a : α} {t : Nat} (h : Fresh K M w a) (hk : KT t w w') (ht : t ∉ K.tys) : Fresh K M w' a := ⟨hK.kt h.ow hk ht, h.nd, h.ge⟩
theorem KLaw.ow_blw {α β : Type} {K : Knd α β} (hK : KLaw K) {w w' : World} {a : α} (h : K.ow w a) (hb : Below w.heap.size w w') : K.ow w' a := hK.ow_of h (fun b hm => hb.block b (hK.ow_lt h b hm))

/-- a box that holds something -/
def gBox {α β : Type} (T : Nat) (K : Knd α β) : Knd (Nat × α) β :=
  { sz := 1, cells := fun a => [.pointer (some ⟨a.1, 0, none⟩)], val := fun a => .pointer (some ⟨a.1, 0, none⟩), rd := fun w a => w.heap[a.1]? = some (.cells (K.cells a.2).toArray T (0, 0)) ∧ K.rd w a.2, ow := fun w a => w.heap[a.1]? = some (.cells (K.cells a.2).toArray T (0, 0)) ∧ K.ow w a.2,
    foot := fun a => a.1 :: K.foot a.2, pl := fun a => K.pl a.2, size := fun a => K.size a.2, cnt := fun a => 0, mkd := fun _ _ => True, vcnt := fun _ => 0, vmkd := fun _ _ => True, zero := (0, K.zero), tys := T :: K.tys }
theorem Fresh.box {α β : Type} {K : Knd α β} {T M M' b : Nat} {w : World} {a : α} (hb : w.heap[b]? = some (.cells (K.cells a).toArray T (0, 0))) (hM : M ≤ b) (h : Fresh K M' w a) (hM' : M ≤ M') (hn : b ∉ K.foot a) : Fresh (gBox T K) M w (b, a) :=
  ⟨⟨hb, h.ow⟩, List.nodup_cons.2 ⟨hn, h.nd⟩, fun x hx => by rcases List.mem_cons.1 hx with rfl | hx; · exact hM
                                                            · exact Nat.le_trans hM' (h.ge x hx)⟩
/-- a kind, as far as blocks go -/
structure KBlk {α β : Type} (K : Knd α β) : Prop where
  ow_of : ∀ {w w' : World} {a : α}, K.ow w a → (∀ b ∈ K.foot a, w'.heap[b]? = w.heap[b]?) → K.ow w' a
  ow_lt : ∀ {w : World} {a : α}, K.ow w a → ∀ b ∈ K.foot a, b < w.heap.size
theorem KLaw.blk {α β : Type} {K : Knd α β} (h : KLaw K) : KBlk K := ⟨h.ow_of, h.ow_lt⟩
theorem KBlk.box {α β : Type} {K : Knd α β} {T : Nat} (h : KBlk K) : KBlk (gBox T K) := ⟨fun ho hb => ⟨(hb _ (List.mem_cons_self ..)).trans ho.1, h.ow_of ho.2 (fun b hm => hb b (List.mem_cons_of_mem _ hm))⟩, fun ho b hm => by
  rcases List.mem_cons.1 hm with rfl | hm
  · exact heap_lt ho.1
  · exact h.ow_lt ho.2 b hm⟩
theorem KBlk.pair {α β γ δ : Type} {K : Knd α β} {L : Knd γ δ} (hK : KBlk K) (hL : KBlk L) : KBlk (gPair K L) := ⟨fun h hb => ⟨hK.ow_of h.1 (fun b hm => hb b (List.mem_append.2 (.inl hm))), hL.ow_of h.2 (fun b hm => hb b (List.mem_append.2 (.inr hm)))⟩, fun h b hm => by
  rcases List.mem_append.1 hm with hm | hm
  · exact hK.ow_lt h.1 b hm
  · exact hL.ow_lt h.2 b hm⟩
theorem Fresh.ofB {α β : Type} {K : Knd α β} (hK : KBlk K) {M : Nat} {w w' : World} {a : α} (h : Fresh K M w a) (hb : ∀ b ∈ K.foot a, w'.heap[b]? = w.heap[b]?) : Fresh K M w' a := ⟨hK.ow_of h.ow hb, h.nd, h.ge⟩
theorem Fresh.blwB {α β : Type} {K : Knd α β} (hK : KBlk K) {M : Nat} {w w' : World} {a : α} (h : Fresh K M w a) (hb : Below w.heap.size w w') : Fresh K M w' a := h.ofB hK (fun b hm => hb.block b (hK.ow_lt h.ow b hm))
/-- the first of two is marked -/
theorem Fresh.updL {α β γ δ : Type} {K : Knd α β} {L : Knd γ δ} (hL : KBlk L) {M : Nat} {w w' : World} {a a' : α} {b : γ} {D : Nat → Prop} (h : Fresh (gPair K L) M w (a, b)) (hk : Kept D w w') (hD : ∀ x, D x → x ∈ K.foot a) (ha : Fresh K M w' a') (hf : K.foot a' = K.foot a) : Fresh (gPair K L) M w' (a', b) := by
  obtain ⟨n1, n2, n3⟩ := List.nodup_append.1 h.nd
  refine ⟨⟨ha.ow, hL.ow_of h.ow.2 (fun x hx => hk.block x (hL.ow_lt h.ow.2 x hx) (fun hd => n3 x (hD x hd) x hx rfl))⟩, ?_, ?_⟩
  · show (K.foot a' ++ L.foot b).Nodup; rw [hf]; exact h.nd
  · show ∀ x ∈ K.foot a' ++ L.foot b, M ≤ x; rw [hf]; exact h.ge
theorem Fresh.updR {α β γ δ : Type} {K : Knd α β} {L : Knd γ δ} (hK : KBlk K) {M : Nat} {w w' : World} {a : α} {b b' : γ} {D : Nat → Prop} (h : Fresh (gPair K L) M w (a, b)) (hk : Kept D w w') (hD : ∀ x, D x → x ∈ L.foot b) (hb : Fresh L M w' b') (hf : L.foot b' = L.foot b) : Fresh (gPair K L) M w' (a, b') := by
  obtain ⟨n1, n2, n3⟩ := List.nodup_append.1 h.nd
  refine ⟨⟨hK.ow_of h.ow.1 (fun x hx => hk.block x (hK.ow_lt h.ow.1 x hx) (fun hd => n3 x hx x (hD x hd) rfl)), hb.ow⟩, ?_, ?_⟩
  · show (K.foot a ++ L.foot b').Nodup; rw [hf]; exact h.nd
  · show ∀ x ∈ K.foot a ++ L.foot b', M ≤ x; rw [hf]; exact h.ge
theorem Fresh.updB {α β : Type} {K : Knd α β} {T M b : Nat} {w w' : World} {a a' : α} {D : Nat → Prop} (h : Fresh (gBox T K) M w (b, a)) (hk : Kept D w w') (hD : ∀ x, D x → x ∈ K.foot a) (ha : K.ow w' a') (hf : K.foot a' = K.foot a) (hc : K.cells a' = K.cells a) : Fresh (gBox T K) M w' (b, a') := by
  obtain ⟨n1, n2⟩ := List.nodup_cons.1 h.nd
  refine ⟨⟨?_, ha⟩, ?_, ?_⟩
  · show w'.heap[b]? = some (.cells (K.cells a').toArray T (0, 0))
    rw [hc]
    exact (hk.block b (heap_lt h.ow.1) (fun hd => n1 (hD b hd))).trans h.ow.1
  · show (b :: K.foot a').Nodup; rw [hf]; exact h.nd
  · show ∀ x ∈ b :: K.foot a', M ≤ x; rw [hf]; exact h.ge
theorem Fresh.fst {α β γ δ : Type} {K : Knd α β} {L : Knd γ δ} {M : Nat} {w : World} {a : α} {b : γ} (h : Fresh (gPair K L) M w (a, b)) : Fresh K M w a := ⟨h.ow.1, (List.nodup_append.1 h.nd).1, fun x hx => h.ge x (List.mem_append.2 (.inl hx))⟩
theorem Fresh.snd {α β γ δ : Type} {K : Knd α β} {L : Knd γ δ} {M : Nat} {w : World} {a : α} {b : γ} (h : Fresh (gPair K L) M w (a, b)) : Fresh L M w b := ⟨h.ow.2, (List.nodup_append.1 h.nd).2.1, fun x hx => h.ge x (List.mem_append.2 (.inr hx))⟩
theorem Fresh.inb {α β : Type} {K : Knd α β} {T M b : Nat} {w : World} {a : α} (h : Fresh (gBox T K) M w (b, a)) : Fresh K M w a := ⟨h.ow.2, (List.nodup_cons.1 h.nd).2, fun x hx => h.ge x (List.mem_cons_of_mem _ hx)⟩
/-- side by side: the second is newer -/
theorem Fresh.join {α β γ δ : Type} {K : Knd α β} {L : Knd γ δ} {M M' : Nat} {w : World} {a : α} {b : γ} (h1 : Fresh K M w a) (hM : M ≤ M') (hlt : ∀ x ∈ K.foot a, x < M') (h2 : Fresh L M' w b) : Fresh (gPair K L) M w (a, b) := h1.pair hM hlt h2
/-- what lay before N lies as it lay -/
theorem old_kept {N : Nat} {w w1 w2 : World} {D : Nat → Prop} (h : Below N w w1) (hk : Kept D w1 w2) (hD : ∀ b, D b → N ≤ b) (hN : N ≤ w1.heap.size) : Below N w w2 :=
  ⟨hk.os.trans h.os, hk.tape.trans h.tape, hk.output.trans h.output, Nat.le_trans h.size hk.size, fun k hlt => (hk.block k (by omega) (fun hd => by have := hD k hd; omega)).trans (h.block k hlt)⟩

/-- answers, as one value -/
def Ans2 {α β γ δ : Type} (K : Knd α β) (L : Knd γ δ) (z : β) (y : δ) (M : Nat) : World → Value → Prop := fun w v => ∃ a b, v = .tuple #[K.val a, L.val b] ∧ K.pl a = z ∧ L.pl b = y ∧ K.size a + L.size b ≤ 1000000000 ∧ Fresh (gPair K L) M w (a, b)
theorem Ans2.gr {α β γ δ : Type} {K : Knd α β} {L : Knd γ δ} (hK : KBlk K) (hL : KBlk L) {z : β} {y : δ} {M : Nat} : ∀ w w' v, Gr w w' → Ans2 K L z y M w v → Ans2 K L z y M w' v := by
  rintro w w' v hg ⟨a, b, e, h1, h2, h3, h4⟩; exact ⟨a, b, e, h1, h2, h3, h4.blwB (hK.pair hL) hg⟩
theorem Ans2.kt {α β γ δ : Type} {K : Knd α β} {L : Knd γ δ} (hK : KLaw K) (hL : KLaw L) {z : β} {y : δ} {M t : Nat} (h1 : t ∉ K.tys) (h2 : t ∉ L.tys) : ∀ w w' v, KT t w w' → Ans2 K L z y M w v → Ans2 K L z y M w' v := by
  rintro w w' v hk ⟨a, b, e, g1, g2, g3, g4⟩; exact ⟨a, b, e, g1, g2, g3, ⟨⟨hK.kt g4.ow.1 hk h1, hL.kt g4.ow.2 hk h2⟩, g4.nd, g4.ge⟩⟩
/-- a copy, as one value -/
def kOw {α β : Type} (K : Knd α β) (z : β) : World → Value → Prop := fun w v => ∃ a, v = K.val a ∧ K.pl a = z ∧ K.ow w a
theorem kOw_gr {α β : Type} {K : Knd α β} (hK : KBlk K) {z : β} : ∀ w w' v, Gr w w' → kOw K z w v → kOw K z w' v := by
  rintro w w' v hg ⟨a, e, h1, h2⟩; exact ⟨a, e, h1, hK.ow_of h2 (fun b hm => hg.block b (hK.ow_lt h2 b hm))⟩
theorem kOw_kt {α β : Type} {K : Knd α β} (hK : KLaw K) {z : β} {t : Nat} (ht : t ∉ K.tys) : ∀ w w' v, KT t w w' → kOw K z w v → kOw K z w' v := by
  rintro w w' v hk ⟨a, e, h1, h2⟩; exact ⟨a, e, h1, hK.kt h2 hk ht⟩
theorem ToC.ow {α β : Type} {K : Knd α β} {F : Nat} (h : ToC K F) (a : α) (w : World) (hr : K.rd w a) (hs : K.size a ≤ 1048576) : Calls Try.prog F #[K.val a] w fun e w' => (∃ v, e = .returned v ∧ kOw K (K.pl a) w' v) ∧ Below w.heap.size w w' := (h a w hr hs).mono (by
  rintro e w' ⟨a', rfl, h1, _, h3, hb⟩
  exact ⟨⟨_, rfl, a', rfl, h1, h3.ow⟩, hb⟩)

theorem Ans2.mono {α β γ δ : Type} {K : Knd α β} {L : Knd γ δ} {z : β} {y : δ} {M M' : Nat} {w : World} {v : Value} (h : Ans2 K L z y M w v) (hM : M' ≤ M) : Ans2 K L z y M' w v := by
  obtain ⟨a, b, e, g1, g2, g3, g4⟩ := h; exact ⟨a, b, e, g1, g2, g3, g4.mono hM⟩
/-- two answers, the first in a box -/
theorem Fresh.box2 {α β γ δ : Type} {K : Knd α β} {L : Knd γ δ} {T M B : Nat} {w : World} {a : α} {b : γ} (h : Fresh (gPair K L) M w (a, b)) (hB : w.heap[B]? = some (.cells (K.cells a).toArray T (0, 0))) (hM : M ≤ B) (hn : ∀ x ∈ (gPair K L).foot (a, b), x < B) : Fresh (gPair (gBox T K) L) M w ((B, a), b) := by
  refine ⟨⟨⟨hB, h.ow.1⟩, h.ow.2⟩, ?_, ?_⟩
  · show (B :: (K.foot a ++ L.foot b)).Nodup
    exact List.nodup_cons.2 ⟨fun hm => by have := hn B hm; omega, h.nd⟩
  · intro x hx
    rcases List.mem_cons.1 (show x ∈ B :: (K.foot a ++ L.foot b) from hx) with rfl | hx
    · exact hM
    · exact h.ge x hx
theorem fresh_mark {α β : Type} {K : Knd α β} {M : Nat} {w w' : World} {a a' : α} (h : Fresh K M w a) (ho : K.ow w' a') (hf : K.foot a' = K.foot a) : Fresh K M w' a' := ⟨ho, by rw [hf]; exact h.nd, by rw [hf]; exact h.ge⟩

end Go.Proofs.Ytlifkfemdknndaa

namespace Go.Proofs.Ytlifkfemdknndaa
open Go.RowKit
set_option linter.unusedSimpArgs false
set_option linter.unusedVariables false

/-- none, or an empty row -/
def EmptK (E : Nat) (w : World) (p : Option Addr) : Prop := p = none ∨ ∃ g, p = some ⟨g, 0, none⟩ ∧ w.heap[g]? = some (.cells #[] E (0, 0))
theorem addr_add (b off j : Nat) : ((⟨b, off, none⟩ : Addr).add j) = ⟨b, off + j, none⟩ := by unfold Addr.add; split <;> simp_all
theorem news_rd {α β : Type} {K : Knd α β} (hK : KLaw K) {E : Nat} {w : World} {a : Lst α} (h : (gLst E K).rd w a) (h0 : a.l ≠ []) : ∃ b off, a.p = some ⟨b, off, none⟩ ∧ ∀ (j : Nat) (u : Value), (a.l.flatMap K.cells)[j]? = some u → w.cell? ((⟨b, off, none⟩ : Addr).add j) = some u := by
  obtain ⟨_, _, h3, _⟩ := h
  rcases h3 with h3 | ⟨b, off, e, hlt, hc⟩
  · exact absurd h3 h0
  refine ⟨b, off, e, fun j u hj => ?_⟩
  have hlen := (List.getElem?_eq_some_iff.1 hj).1
  rw [flat_len hK.len] at hlen
  have hs0 := hK.pos
  have hk : j / K.sz < a.l.length := Nat.div_lt_of_lt_mul (by rw [Nat.mul_comm]; exact hlen)
  have hr : j % K.sz < K.sz := Nat.mod_lt _ hs0
  have e1 : j = (j / K.sz) * K.sz + j % K.sz := by rw [Nat.mul_comm]; exact (Nat.div_add_mod j _).symm
  have e2 : ((⟨b, off, none⟩ : Addr).add j) = ⟨b, off + j, none⟩ := addr_add b off j
  rw [e2]
  have h5 := hc _ hk (j % K.sz) u (by rw [e1, flat_get hK.len _ _ _ hk hr] at hj; exact hj)
  rw [Nat.add_assoc, ← e1] at h5
  exact h5
theorem foot_flat {α β : Type} {K : Knd α β} (hfoot : ∀ a, K.foot a = []) (E : Nat) (a : Lst α) : (gLst E K).foot a = blk a := by
  show blk a ++ a.l.flatMap K.foot = _
  have : a.l.flatMap K.foot = [] := by
    rw [List.flatMap_eq_nil_iff]; exact fun x _ => hfoot x
  rw [this]; simp
theorem nodup_blk {α : Type} (a : Lst α) : (blk a).Nodup := by unfold blk; split <;> simp

theorem run_copyK {α β : Type} {K : Knd α β} (hK : KLaw K) (hflat : ∀ w a, K.ow w a) (hfoot : ∀ a, K.foot a = []) {T E : TypeId} {i : TypeInfo} {z : Value} {by_ : Nat} (hu : Try.prog.underlying T = some (.slice E)) (hi : Try.prog.info? E = some i) (hz : i.zero = some z) (hsz : i.size = K.sz) (hby : i.bytes = by_) (hzs : z.cells.size = K.sz) (hbb : by_ ≤ 1000)
    {ρ : Operand → Value} {o : Oper} {w : World} {S X : Operand} {p0 p : Option Addr} {c : Nat} {ys : List α}
    (ho : o.op = .call { callee := .builtin .append, args := #[S, X], argTypes := #[T, T] })
    (hs : ρ S = .slice p0 0 0) (hE : EmptK E w p0) (hx : ρ X = .slice p ys.length c) (hY : (gLst E K).rd w ⟨p, c, ys⟩) (hlen : ys.length ≤ 2000000) :
    ∃ a' w', (execOp ρ o).run Try.prog w = .ok (.value ((gLst E K).val a')) w' ∧ a'.l = ys ∧ Fresh (gLst E K) (match p0 with | some x => min x.block w.heap.size | none => w.heap.size) w' a' ∧ (ys ≠ [] → Fresh (gLst E K) w.heap.size w' a') ∧ Gr w w' := by
  by_cases hy : ys = []
  · subst hy
    have hrun : (Builtin.append_ #[T, T] o.type #[.slice p0 0 0, .slice p 0 c]).run Try.prog w = .ok (.slice p0 0 0) w := by
      cases p <;> cases p0 <;> simp [Builtin.append_, run_underlying hu, sizeOf, typeInfo, hi, Builtin.lenOf, Builtin.firstCells, loadCells, loadCellsFrom, storeCells]
    refine ⟨⟨p0, 0, []⟩, w, ?_, rfl, ⟨⟨Nat.le_refl _, by simp, .inl rfl, fun _ h => by simp at h⟩, by rw [foot_flat hfoot]; exact nodup_blk _, fun b hb => by rw [foot_flat hfoot] at hb; simp [blk] at hb⟩, fun h => absurd rfl h, Gr.refl _⟩
    unfold execOp
    simp only [ho, resolve, invoke, builtin, Sem.run_bind, Sem.run_pure, Result.andThen_ok, List.map_toArray, List.map_cons, List.map_nil, hs, hx, List.length_nil, hrun]
    rfl
  · obtain ⟨b, off, hp, hnews⟩ := news_rd hK hY hy
    simp only at hp hnews
    subst hp
    have hl : (ys.flatMap K.cells).length = ys.length * K.sz := flat_len hK.len ys
    have hone : ∀ v ∈ ys.flatMap K.cells, v.oneCell' = true := fun v hv => by
      obtain ⟨x, _, h⟩ := List.mem_flatMap.1 hv
      exact hK.one x v h
    have hpos : 0 < ys.length := List.length_pos_iff.2 hy
    have hby' : ys.length * by_ ≤ 140737488355328 := by
      have := Nat.mul_le_mul hlen hbb
      omega
    have fr : ∀ (g' cap' : Nat) (cur' : Array Value) (w' : World), w'.heap[g']? = some (.cells cur' E (0, 0)) → cap' ≤ maxLen → cur'.size = cap' * K.sz → ys.length ≤ cap' → cur'.toList.take (ys.length * K.sz) = ys.flatMap K.cells → ∀ M, M ≤ g' → Fresh (gLst E K) M w' ⟨some ⟨g', 0, none⟩, cap', ys⟩ := fun g' cap' cur' w' k1 k2 k3 k4 k5 M hM =>
      ⟨⟨k4, by unfold maxLen at k2; exact k2, .inr ⟨g', rfl, ⟨cur', k1, k3, k4, hl, k5⟩⟩, fun x _ => hflat w' x⟩, by rw [foot_flat hfoot]; exact nodup_blk _, fun x hx => by
        rw [foot_flat hfoot, blk_of (a := ⟨some ⟨g', 0, none⟩, cap', ys⟩) hy rfl] at hx
        simp at hx; subst hx; exact hM⟩
    rcases hE with rfl | ⟨g, rfl, hg⟩
    · obtain ⟨v', w', hrun, hown', hgr, hnil⟩ := run_append_own (P := Try.prog) w w.heap.size T o.type E i z K.sz by_ hu hi hz hsz hby hzs hK.pos (.slice none 0 0) 0 [] (World.ownsRow_nil w w.heap.size E K.sz) ⟨b, off, none⟩ ys.length c (ys.flatMap K.cells) hl hnews hone (by unfold maxLen; omega) (by simpa using hby') (Nat.le_refl _)
      obtain ⟨hl', hv | ⟨g', cap', cur', hv, q1, q2, q3, q4, q5, q6⟩⟩ := hown'
      · exact absurd (hnil.1 hv.1).2 (by omega)
      · subst hv
        have hF := fr g' cap' cur' w' q2 q4 q5 (by omega) (by simpa using q6) w.heap.size q1
        refine ⟨⟨some ⟨g', 0, none⟩, cap', ys⟩, w', ?_, rfl, hF, fun _ => hF, ⟨hgr.os, hgr.tape, hgr.output, hgr.size, fun k hk => hgr.block k hk (by simp [Value.ownBlock])⟩⟩
        unfold execOp
        simp only [ho, resolve, invoke, builtin, Sem.run_bind, Sem.run_pure, Result.andThen_ok, List.map_toArray, List.map_cons, List.map_nil, hs, hx, hrun, Nat.zero_add]
        rfl
    · obtain ⟨v', w', hrun, r1, r2⟩ := run_append_arg_grows (P := Try.prog) w T o.type E i z K.sz by_ hu hi hz hsz hby hzs hK.pos ⟨g, 0, none⟩ 0 0 [] (by simp) (fun j u hj => by simp at hj) ⟨b, off, none⟩ ys.length c (ys.flatMap K.cells) hl hnews (by omega) (by unfold maxLen; omega) (by simpa using hby')
      obtain ⟨hlen', hn | ⟨g', cap', cur', hv, k1, k2, k3, k4, k5, k6⟩⟩ := r1
      · omega
      · subst hv
        have hF := fr g' cap' cur' w' k2 k4 k5 (by omega) (by simpa using k6) w.heap.size k1
        refine ⟨⟨some ⟨g', 0, none⟩, cap', ys⟩, w', ?_, rfl, hF.mono (by simp only; omega), fun _ => hF, ⟨r2.os, r2.tape, r2.output, r2.size, fun k hk => r2.block k hk (by simp)⟩⟩
        unfold execOp
        simp only [ho, resolve, invoke, builtin, Sem.run_bind, Sem.run_pure, Result.andThen_ok, List.map_toArray, List.map_cons, List.map_nil, hs, hx, hrun, Nat.zero_add]
        rfl

theorem wpList_copyK {α β : Type} {K : Knd α β} (hK : KLaw K) (hflat : ∀ w a, K.ow w a) (hfoot : ∀ a, K.foot a = []) {T E : TypeId} {i : TypeInfo} {z : Value} {by_ : Nat} (hu : Try.prog.underlying T = some (.slice E)) (hi : Try.prog.info? E = some i) (hz : i.zero = some z) (hsz : i.size = K.sz) (hby : i.bytes = by_) (hzs : z.cells.size = K.sz) (hbb : by_ ≤ 1000)
    {ops : Array Oper} {rest : List Oper} {o : Oper} {a : Act} {Q : Exit → Act → World → Prop} {w : World} {S X : Operand} {p : Option Addr} {c : Nat} (ys : List α) (hg : o.guard = none)
    (ho : o.op = .call { callee := .builtin .append, args := #[S, X], argTypes := #[T, T] })
    (hs : a.eval S = .slice none 0 0) (hx : a.eval X = .slice p ys.length c) (hY : (gLst E K).rd w ⟨p, c, ys⟩) (hlen : ys.length ≤ 2000000)
    (h : ∀ p' c' w', Fresh (gLst E K) w.heap.size w' ⟨p', c', ys⟩ → Gr w w' → wpList Try.prog ops Q rest (a.put o.dst (.slice p' ys.length c')) w') : wpList Try.prog ops Q (o :: rest) a w := by
  refine wpList_plain hg (fun KK hKK => ?_)
  obtain ⟨⟨p', c', l'⟩, w', r1, r2, r3, _, r5⟩ := run_copyK hK hflat hfoot hu hi hz hsz hby hzs hbb (ρ := a.eval) ho hs (.inl rfl) hx hY hlen
  simp only at r2
  subst r2
  unfold Oper.wp
  rw [r1]
  exact hKK _ _ (h p' c' w' r3 r5)

theorem tv_copyK {α β : Type} {K : Knd α β} (hK : KLaw K) (hflat : ∀ w a, K.ow w a) (hfoot : ∀ a, K.foot a = []) {T E : TypeId} {i : TypeInfo} {z : Value} {by_ : Nat} (hu : Try.prog.underlying T = some (.slice E)) (hi : Try.prog.info? E = some i) (hz : i.zero = some z) (hsz : i.size = K.sz) (hby : i.bytes = by_) (hzs : z.cells.size = K.sz) (hbb : by_ ≤ 1000)
    {ρ : Operand → Value} {o : Oper} {w : World} {S X : Operand} {p0 p : Option Addr} {c : Nat} {ys : List α} {P : Value → World → Prop}
    (ho : o.op = .call { callee := .builtin .append, args := #[S, X], argTypes := #[T, T] })
    (hs : ρ S = .slice p0 0 0) (hE : EmptK E w p0) (hx : ρ X = .slice p ys.length c) (hY : (gLst E K).rd w ⟨p, c, ys⟩) (hlen : ys.length ≤ 2000000)
    (h : ∀ p' c' w', ((gLst E K).ow w' ⟨p', c', ys⟩ ∧ ∀ M, M ≤ w.heap.size → Fresh (gLst E K) M w' ⟨p', c', ys⟩) → Gr w w' → P (.slice p' ys.length c') w') : ∃ v w', (execOp ρ o).run Try.prog w = .ok (.value v) w' ∧ P v w' := by
  obtain ⟨⟨p', c', l'⟩, w', r1, r2, r3, r4, r5⟩ := run_copyK hK hflat hfoot hu hi hz hsz hby hzs hbb ho hs hE hx hY hlen
  simp only at r2
  subst r2
  refine ⟨_, w', r1, h p' c' w' ⟨r3.ow, fun M hM => ?_⟩ r5⟩
  by_cases h0 : l' = []
  · exact ⟨r3.ow, r3.nd, fun b hb => by rw [foot_flat hfoot] at hb; rw [blk_nil h0] at hb; simp at hb⟩
  · exact (r4 h0).mono hM

end Go.Proofs.Ytlifkfemdknndaa
