/-
  Rows of ranges, appended: what 'append' makes of a row of the call's own and another one.
-/
import Derived.Test.YtdjmjdljgdagcaaProg
import Derived.Test.YtdjmjdljgdagcaaWRow
import Derived.Test.YtdjmjdljgdagcaaORow
import Derived.Test.YtdjmjdljgdagcaaOps
namespace Go.Proofs.Ytdjmjdljgdagcaa
open Go.RowKit
set_option linter.unusedSimpArgs false
set_option linter.unusedVariables false

theorem flat_one : ∀ (ys : List Rng) (u : Value), u ∈ flat ys → u.oneCell' = true
  | r :: l, u, h => by
    simp only [flat, List.mem_cons] at h
    rcases h with rfl | rfl | rfl | rfl | h
    all_goals first | rfl | exact flat_one l u h

theorem flat_news {w : World} {b off : Nat} {ys : List Rng} (h : RowOf w (some ⟨b, off, none⟩) ys) : ∀ (j : Nat) u, (flat ys)[j]? = some u → w.cell? ((⟨b, off, none⟩ : Addr).add j) = some u := by
  intro j u hj
  rcases h with h | ⟨b', off', e, hb, hc⟩
  · subst h; simp [flat] at hj
  · cases e
    have hlt : j < ys.length * 4 := by
      rw [← flat_len]
      exact (List.getElem?_eq_some_iff.1 hj).1
    have hadd : (⟨b, off, none⟩ : Addr).add j = ⟨b, off + j, none⟩ := by unfold Addr.add; split <;> simp_all
    rw [hadd]
    have hk : j / 4 < ys.length := by omega
    obtain ⟨f0, f1, f2, f3⟩ := flat_at ys (j / 4) hk
    obtain ⟨c0, c1, c2, c3⟩ := hc (j / 4) hk
    have cases4 : j = j / 4 * 4 ∨ j = j / 4 * 4 + 1 ∨ j = j / 4 * 4 + 2 ∨ j = j / 4 * 4 + 3 := by omega
    rcases cases4 with h | h | h | h
    · rw [h] at hj ⊢; rw [f0] at hj; cases hj; exact c0
    · rw [h] at hj ⊢; rw [f1] at hj; cases hj; rw [← Nat.add_assoc]; exact c1
    · rw [h] at hj ⊢; rw [f2] at hj; cases hj; rw [← Nat.add_assoc]; exact c2
    · rw [h] at hj ⊢; rw [f3] at hj; cases hj; rw [← Nat.add_assoc]; exact c3

theorem WRow.toO {w : World} {b cap : Nat} {xs : List Rng} (h : WRow w b cap xs) : ORow 43 4 w b cap xs.length (flat xs) := by
  obtain ⟨cs, h1, h2, h3, h4⟩ := h
  exact ⟨cs, h1, h2, h3, flat_len xs, h4⟩
theorem WRow.ofO {w : World} {b cap n : Nat} {xs : List Rng} (h : ORow 43 4 w b cap n (flat xs)) (hn : n = xs.length) : WRow w b cap xs := by
  subst hn
  obtain ⟨cs, h1, h2, h3, _, h4⟩ := h
  exact ⟨cs, h1, h2, h3, h4⟩

/-- a row of its own from block M on -/
def kW (M : Nat) (ys : List Rng) : World → Value → Prop := fun w v => ∃ g cap, v = .slice (some ⟨g, 0, none⟩) ys.length cap ∧ M ≤ g ∧ cap ≤ maxLen ∧ WRow w g cap ys
/-- such rows of the listed contents stay -/
def RW (M : Nat) (L : List (List Rng)) (w w' : World) : Prop := w.heap.size ≤ w'.heap.size ∧ ∀ ys ∈ L, ∀ g cap, M ≤ g → WRow w g cap ys → WRow w' g cap ys
theorem RW.refl (M : Nat) (L : List (List Rng)) (w : World) : RW M L w w := ⟨Nat.le_refl _, fun _ _ _ _ _ h => h⟩
theorem RW.of_below {M : Nat} {L : List (List Rng)} {w w' : World} (h : Below w.heap.size w w') : RW M L w w' := ⟨h.size, fun _ _ g _ _ hW => hW.of (h.block g hW.lt)⟩
theorem RW.alloc {M : Nat} {L : List (List Rng)} (w : World) (o : Obj) : RW M L w (w.alloc o) := RW.of_below ((Below.refl _ w).alloc (Nat.le_refl _) o)
theorem stable_kW {M : Nat} {L : List (List Rng)} {ys : List Rng} (h : ys ∈ L) {w w' : World} {v : Value} (hr : RW M L w w') (hk : kW M ys w v) : kW M ys w' v := by
  obtain ⟨g, cap, h1, h2, h3, h4⟩ := hk
  exact ⟨g, cap, h1, h2, h3, hr.2 ys h g cap h2 h4⟩

/-- an empty row of its own, without room -/
def kE (M : Nat) : World → Value → Prop := fun w v => ∃ g, v = .slice (some ⟨g, 0, none⟩) 0 0 ∧ M ≤ g ∧ WRow w g 0 []
theorem stable_kE {M : Nat} {L : List (List Rng)} (h : [] ∈ L) {w w' : World} {v : Value} (hr : RW M L w w') (hk : kE M w v) : kE M w' v := by
  obtain ⟨g, h1, h2, h3⟩ := hk
  exact ⟨g, h1, h2, hr.2 [] h g 0 h2 h3⟩

theorem run_app_core {ρ : Operand → Value} {o : Oper} {w : World} {s x b off c M : Nat} {xs ys : List Rng} (L : List (List Rng))
    (ho : o.op = .call { callee := .builtin .append, args := #[.tmp s, .tmp x], argTypes := #[36, 36] })
    {g cap : Nat} (hv : ρ (.tmp s) = .slice (some ⟨g, 0, none⟩) xs.length cap) (hMg : M ≤ g) (hcap : cap ≤ maxLen) (hW : WRow w g cap xs) (hx : ρ (.tmp x) = .slice (some ⟨b, off, none⟩) ys.length c) (hY : RowOf w (some ⟨b, off, none⟩) ys)
    (hlen : xs.length + ys.length ≤ 1000) (hL : ∀ zs ∈ L, zs.length ≤ xs.length ∨ zs = xs ++ ys ∨ cap = 0) (hMw : M ≤ w.heap.size) :
    ∃ v w', (execOp ρ o).run Try.prog w = .ok (.value v) w' ∧ kW M (xs ++ ys) w' v ∧ RW M L w w' ∧ Below M w w' := by
  obtain ⟨i0, hi, hz0, hz1, hz2⟩ := info_parts Try.infoRng
  obtain ⟨g', cap', w', e, hO, hc', hG, hg', hold⟩ := run_append_rows (P := Try.prog) (w := w) (ρ := ρ) (o := o) (xs := flat xs) (ys := flat ys) 36 43 i0 _ 4 32 Try.underlying36 hi hz0 hz1 hz2 rfl (by omega) ho hv hW.toO hx (flat_len ys) (flat_news hY) (flat_one ys) hcap (by unfold maxLen; omega) (by omega)
  rw [← flat_append] at hO
  have hW' := WRow.ofO hO (by simp)
  refine ⟨_, w', by rw [e], ⟨g', cap', by simp, by omega, hc', hW'⟩, ⟨hG.size, fun zs hz g0 cap0 hM0 h0 => ?_⟩, ⟨hG.os, hG.tape, hG.output, hG.size, fun k hk => hG.block k (by omega) (by omega)⟩⟩
  by_cases hgg : g0 = g
  · subst hgg
    refine WRow.ofO (hold cap0 zs.length (flat zs) h0.toO ?_) rfl
    rcases hL zs hz with h | h | h
    · exact .inl h
    · subst h; exact .inr ⟨by simp, flat_append xs ys⟩
    · subst h
      obtain ⟨c1, d1, d2, d3, d4⟩ := h0
      obtain ⟨c2, e1, e2, e3, e4⟩ := hW
      rw [d1] at e1
      cases e1
      exact .inl (by omega)
  · exact h0.of (hG.block g0 h0.lt hgg)

theorem run_app {ρ : Operand → Value} {o : Oper} {w : World} {s x b off c M : Nat} {xs ys : List Rng} (L : List (List Rng))
    (ho : o.op = .call { callee := .builtin .append, args := #[.tmp s, .tmp x], argTypes := #[36, 36] })
    (hs : kW M xs w (ρ (.tmp s))) (hx : ρ (.tmp x) = .slice (some ⟨b, off, none⟩) ys.length c) (hY : RowOf w (some ⟨b, off, none⟩) ys)
    (hlen : xs.length + ys.length ≤ 1000) (hL : ∀ zs ∈ L, zs.length ≤ xs.length ∨ zs = xs ++ ys) (hMw : M ≤ w.heap.size) :
    ∃ v w', (execOp ρ o).run Try.prog w = .ok (.value v) w' ∧ kW M (xs ++ ys) w' v ∧ RW M L w w' ∧ Below M w w' := by
  obtain ⟨g, cap, hv, hMg, hcap, hW⟩ := hs
  exact run_app_core L ho hv hMg hcap hW hx hY hlen (fun zs hz => (hL zs hz).imp id .inl) hMw
theorem run_app0 {ρ : Operand → Value} {o : Oper} {w : World} {s x b off c M : Nat} {ys : List Rng} (L : List (List Rng))
    (ho : o.op = .call { callee := .builtin .append, args := #[.tmp s, .tmp x], argTypes := #[36, 36] })
    (hs : kE M w (ρ (.tmp s))) (hx : ρ (.tmp x) = .slice (some ⟨b, off, none⟩) ys.length c) (hY : RowOf w (some ⟨b, off, none⟩) ys)
    (hlen : ys.length ≤ 1000) (hMw : M ≤ w.heap.size) :
    ∃ v w', (execOp ρ o).run Try.prog w = .ok (.value v) w' ∧ kW M ys w' v ∧ RW M L w w' ∧ Below M w w' := by
  obtain ⟨g, hv, hMg, hW⟩ := hs
  have := run_app_core (xs := []) L ho hv hMg (Nat.zero_le _) hW hx hY (by simpa using hlen) (fun zs hz => .inr (.inr rfl)) hMw
  simpa using this

section
variable {ops : Array Oper} {a0 : Act} {C : Nat → World → Prop} {T : Nat → World → Value → Prop} {o : Oper} {d s x b off c M : Nat} {xs ys : List Rng} {L : List (List Rng)}
theorem ty_app0 (ho : o.op = .call { callee := .builtin .append, args := #[.tmp s, .tmp x], argTypes := #[36, 36] }) (hdst : o.dst = some d)
    (hd1 : depB ops o s = true) (hd2 : depB ops o x = true) (hk1 : T s = kE M) (hk2 : T x = kIs (.slice (some ⟨b, off, none⟩) ys.length c)) (hk : T d = kW M ys) (hlen : ys.length ≤ 1000)
    (hC : ∀ k w, C k w → RowOf w (some ⟨b, off, none⟩) ys ∧ M ≤ w.heap.size) (hCn : ∀ k w w', C k w → Below M w w' → C (k + 1) w') : OpTy Try.prog ops a0 (RW M L) C T o := by
  refine ty_val hdst (fun k ρ w hcn hd hW => ?_)
  have e1 := dep_of hd1 hd
  have e2 := dep_of hd2 hd
  rw [hk1] at e1
  rw [hk2] at e2
  obtain ⟨h1, h2⟩ := hC k w hW
  obtain ⟨v, w', g1, g2, g3, g4⟩ := run_app0 L ho e1 e2 h1 hlen h2
  exact ⟨v, w', g1, hCn k w w' hW g4, g3, by rw [hk]; exact g2⟩
theorem ty_app (ho : o.op = .call { callee := .builtin .append, args := #[.tmp s, .tmp x], argTypes := #[36, 36] }) (hdst : o.dst = some d)
    (hd1 : depB ops o s = true) (hd2 : depB ops o x = true) (hk1 : T s = kW M xs) (hk2 : T x = kIs (.slice (some ⟨b, off, none⟩) ys.length c)) (hk : T d = kW M (xs ++ ys)) (hlen : xs.length + ys.length ≤ 1000)
    (hL : ∀ zs ∈ L, zs.length ≤ xs.length ∨ zs = xs ++ ys)
    (hC : ∀ k w, C k w → RowOf w (some ⟨b, off, none⟩) ys ∧ M ≤ w.heap.size) (hCn : ∀ k w w', C k w → Below M w w' → C (k + 1) w') : OpTy Try.prog ops a0 (RW M L) C T o := by
  refine ty_val hdst (fun k ρ w hcn hd hW => ?_)
  have e1 := dep_of hd1 hd
  have e2 := dep_of hd2 hd
  rw [hk1] at e1
  rw [hk2] at e2
  obtain ⟨h1, h2⟩ := hC k w hW
  obtain ⟨v, w', g1, g2, g3, g4⟩ := run_app L ho e1 e2 h1 hlen hL h2
  exact ⟨v, w', g1, hCn k w w' hW g4, g3, by rw [hk]; exact g2⟩
theorem ty_appW (ho : o.op = .call { callee := .builtin .append, args := #[.tmp s, .tmp x], argTypes := #[36, 36] }) (hdst : o.dst = some d)
    (hd1 : depB ops o s = true) (hd2 : depB ops o x = true) (hk1 : T s = kW M xs) (hk2 : T x = kW M ys) (hk : T d = kW M (xs ++ ys)) (hlen : xs.length + ys.length ≤ 1000)
    (hL : ∀ zs ∈ L, zs.length ≤ xs.length ∨ zs = xs ++ ys)
    (hC : ∀ k w, C k w → M ≤ w.heap.size) (hCn : ∀ k w w', C k w → Below M w w' → C (k + 1) w') : OpTy Try.prog ops a0 (RW M L) C T o := by
  refine ty_val hdst (fun k ρ w hcn hd hW => ?_)
  have e1 := dep_of hd1 hd
  have e2 := dep_of hd2 hd
  rw [hk1] at e1
  rw [hk2] at e2
  obtain ⟨g0, cap0, e2, _, _, hW2⟩ := e2
  obtain ⟨v, w', g1, g2, g3, g4⟩ := run_app L ho e1 e2 hW2.row hlen hL (hC k w hW)
  exact ⟨v, w', g1, hCn k w w' hW g4, g3, by rw [hk]; exact g2⟩
end

end Go.Proofs.Ytdjmjdljgdagcaa
