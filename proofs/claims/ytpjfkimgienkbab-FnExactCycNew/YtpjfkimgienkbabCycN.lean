/-
  A bus at its beginning, marked, held, and whether two are the same, by kinds.
-/
import Derived.Test.YtpjfkimgienkbabCycI
import Derived.Test.YtpjfkimgienkbabKCycState
namespace Go.Proofs.Ytpjfkimgienkbab
open Go.RowKit
set_option linter.unusedSimpArgs false
set_option linter.unusedVariables false

def cyc0 (g h ch gp cp gs cs : Nat) : ((Lst Int × Lst Int) × Lst (Int × Lst Int × Lst (Int × Int × Int) × Int) × Lst (Lst (Int × Int × Int) × Lst (Int × Int × (Int × Int × Lst Int)) × Int) × Lst (Int × Int × (Int × Int × Lst Int))) :=
  ((⟨some ⟨g, 0, none⟩, 64, noughts 64⟩, ⟨some ⟨h, 0, none⟩, ch, freeH 6⟩), ⟨some ⟨gp, 0, none⟩, cp, ports0 3⟩, ⟨some ⟨gs, 0, none⟩, cs, slaves0 4⟩, ⟨none, 0, []⟩)
def CNew (w : World) (cs : Array Value) (bs : List Nat) : Prop := ∃ a, cs = (yCycState.cells a).toArray ∧ yCycState.pl a = yCycState.pl (cyc0 0 0 0 0 0 0 0) ∧ yCycState.vcnt a = 80 ∧ yCycState.ow w a ∧ bs = yCycState.foot a ∧ bs.Nodup
def CMrk (w : World) (cs : Array Value) (bs : List Nat) : Prop := ∃ a, cs = (yCycState.cells a).toArray ∧ yCycState.vcnt a = 80 ∧ yCycState.vmkd a 1 ∧ yCycState.ow w a ∧ bs = yCycState.foot a
theorem CNew.lt {w : World} {cs : Array Value} {bs : List Nat} (h : CNew w cs bs) : ∀ b ∈ bs, b < w.heap.size := by
  obtain ⟨a, _, _, _, ho, rfl, _⟩ := h
  exact yCycState_law.ow_lt ho
theorem CNew.of {w w' : World} {cs : Array Value} {bs : List Nat} (h : CNew w cs bs) (hb : ∀ b ∈ bs, w'.heap[b]? = w.heap[b]?) : CNew w' cs bs := by
  obtain ⟨a, h1, h2, h3, ho, rfl, hn⟩ := h
  exact ⟨a, h1, h2, h3, yCycState_law.ow_of ho hb, rfl, hn⟩
theorem CMrk.of {w w' : World} {cs : Array Value} {bs : List Nat} (h : CMrk w cs bs) (hb : ∀ b ∈ bs, w'.heap[b]? = w.heap[b]?) (hs : w.heap.size ≤ w'.heap.size) : CMrk w' cs bs := by
  obtain ⟨a, h1, h2, h3, ho, rfl⟩ := h
  exact ⟨a, h1, h2, h3, yCycState_law.ow_of ho hb, rfl⟩
theorem flat_gInt : ∀ l : List Int, l.flatMap gInt.cells = l.map (Value.int .i64)
  | [] => rfl
  | x :: l => by rw [List.flatMap_cons, flat_gInt l]; rfl
theorem cnew_of {w : World} {g h ch gp cp gs cs : Nat} (H : CycB w g h ch gp cp gs cs) : CNew w #[.slice (some ⟨g, 0, none⟩) 64 64, .slice (some ⟨h, 0, none⟩) 6 ch, .slice (some ⟨gp, 0, none⟩) 3 cp, .slice (some ⟨gs, 0, none⟩) 4 cs, .slice none 0 0] [g, h, gp, gs] := by
  obtain ⟨a1, a2, a3, a4, a5, a6, a7, a8, a9⟩ := H
  obtain ⟨_, x1⟩ := a1.hp
  obtain ⟨_, x2⟩ := a2.hp
  obtain ⟨_, x3⟩ := a5.hp
  obtain ⟨_, x4⟩ := a7.hp
  have hmx : maxLen ≤ 9223372036854775807 := by unfold maxLen; omega
  have l3 : 3 ≤ cp := by obtain ⟨cur, _, _, h, _⟩ := a5; exact h
  have l4 : 4 ≤ cs := by obtain ⟨cur, _, _, h, _⟩ := a7; exact h
  refine ⟨cyc0 g h ch gp cp gs cs, rfl, rfl, by rfl, ⟨⟨?_, ?_⟩, ?_, ?_, yTlmJobS_law.zow w⟩, rfl, ?_⟩
  · exact ⟨show (64 : Nat) ≤ 64 by omega, show (64 : Nat) ≤ 9223372036854775807 by omega, .inr ⟨g, rfl, by rw [flat_gInt]; exact a1⟩, fun _ _ => trivial⟩
  · exact ⟨a3, a4, .inr ⟨h, rfl, by rw [flat_gInt]; exact a2⟩, fun _ _ => trivial⟩
  · exact ⟨l3, show cp ≤ 9223372036854775807 by omega, .inr ⟨gp, rfl, a5⟩, fun x hx => by have e := List.eq_of_mem_replicate hx; subst e; exact yCycPort_law.zow w⟩
  · exact ⟨l4, show cs ≤ 9223372036854775807 by omega, .inr ⟨gs, rfl, a7⟩, fun x hx => by have e := List.eq_of_mem_replicate hx; subst e; exact yCycSlave_law.zow w⟩
  · have n1 := blk_ne x1 x3 (by decide)
    have n2 := blk_ne x1 x4 (by decide)
    have n3 := blk_ne x2 x3 (by decide)
    have n4 := blk_ne x2 x4 (by decide)
    have n5 := blk_ne x3 x4 (by decide)
    simp [a9, n1, n2, n3, n4, n5]

theorem eqCNew (w : World) {cs cs' : Array Value} {bs bs' : List Nat} (h : CNew w cs bs) (h' : CNew w cs' bs') : Calls Try.prog 7 #[.agg cs, .agg cs'] w fun e w' => e = .returned (.bool true) ∧ Below w.heap.size w w' := by
  obtain ⟨a, rfl, h2, h3, ho, rfl, hn⟩ := h
  obtain ⟨a', rfl, h2', h3', ho', rfl, hn'⟩ := h'
  exact yCycState_eq a a' w (yCycState_law.ow_rd ho) (yCycState_law.ow_rd ho') (h2.trans h2'.symm)
theorem markCNew (w : World) {cs : Array Value} {bs : List Nat} (h : CNew w cs bs) : Calls Try.prog 8 #[.agg cs, .int .i64 1] w fun e w' => e = .returned (.int .i64 81) ∧ CMrk w' cs bs ∧ Kept (fun j => j ∈ bs) w w' := by
  obtain ⟨a, rfl, h2, h3, ho, rfl, hn⟩ := h
  refine (yCycState_mark a 1 w ho hn (by omega) (by rw [h3]; omega)).mono ?_
  rintro e w' ⟨rfl, hk, a', e1, e2, e3, e4, h4, h5⟩
  refine ⟨by rw [h3]; rfl, ⟨a', by rw [e2], by rw [e4, h3], h5, h4, e3.symm⟩, hk⟩
theorem heldCNew (w : World) {cs : Array Value} {bs : List Nat} (h : CMrk w cs bs) : Calls Try.prog 9 #[.agg cs, .int .i64 1] w fun e w' => e = .returned (.int .i64 81) ∧ Below w.heap.size w w' := by
  obtain ⟨a, rfl, h2, h3, ho, rfl⟩ := h
  refine (yCycState_held a 1 w (yCycState_law.ow_rd ho) h3 (by omega) (by rw [h2]; omega)).mono ?_
  rintro e w' ⟨rfl, hb⟩
  exact ⟨by rw [h2]; rfl, hb⟩

theorem spec_CycNew (w : World) : Calls Try.prog 5 #[] w fun e w' => ∃ xp0 xl0 xc0 xp1 xl1 xc1 xp2 xl2 xc2 xp3 xl3 xc3 xp4 xl4 xc4 bs, e = .returned (.agg #[(.slice xp0 xl0 xc0), (.slice xp1 xl1 xc1), (.slice xp2 xl2 xc2), (.slice xp3 xl3 xc3), (.slice xp4 xl4 xc4)]) ∧ CNew w' #[(.slice xp0 xl0 xc0), (.slice xp1 xl1 xc1), (.slice xp2 xl2 xc2), (.slice xp3 xl3 xc3), (.slice xp4 xl4 xc4)] bs ∧ (∀ b ∈ bs, w.heap.size ≤ b) ∧ Below w.heap.size w w' := by
  refine (spec_CycNewB w).mono ?_
  rintro e w' ⟨g, h, ch, gp, cp, gs, cs, rfl, H, h1, h2, h3, h4, hb⟩
  exact ⟨_, _, _, _, _, _, _, _, _, _, _, _, _, _, _, _, rfl, cnew_of H, fun b hb => by simp at hb; omega, hb⟩
theorem impl_CycNew (w : World) : Calls Try.prog 6 #[] w fun e w' => ∃ xp0 xl0 xc0 xp1 xl1 xc1 xp2 xl2 xc2 xp3 xl3 xc3 xp4 xl4 xc4 bs, e = .returned (.agg #[(.slice xp0 xl0 xc0), (.slice xp1 xl1 xc1), (.slice xp2 xl2 xc2), (.slice xp3 xl3 xc3), (.slice xp4 xl4 xc4)]) ∧ CNew w' #[(.slice xp0 xl0 xc0), (.slice xp1 xl1 xc1), (.slice xp2 xl2 xc2), (.slice xp3 xl3 xc3), (.slice xp4 xl4 xc4)] bs ∧ (∀ b ∈ bs, w.heap.size ≤ b) ∧ Below w.heap.size w w' := by
  refine (impl_CycNewB w).mono ?_
  rintro e w' ⟨g, h, ch, gp, cp, gs, cs, rfl, H, h1, h2, h3, h4, hb⟩
  exact ⟨_, _, _, _, _, _, _, _, _, _, _, _, _, _, _, _, rfl, cnew_of H, fun b hb => by simp at hb; omega, hb⟩

end Go.Proofs.Ytpjfkimgienkbab
