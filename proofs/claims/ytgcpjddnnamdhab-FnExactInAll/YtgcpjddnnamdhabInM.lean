/-
  What comes from outside: InOk of both; whether two are the same, their size, a copy.
-/
import Derived.Test.YtgcpjddnnamdhabBRow
import Derived.Test.YtgcpjddnnamdhabPInt
namespace Go.Proofs.Ytgcpjddnnamdhab
open Go.RowKit
set_option linter.unusedSimpArgs false
set_option linter.unusedVariables false

/-- what comes from outside in a cycle -/
structure Inn where
  ready : List Bool
  stall : List Bool
  send : List Bool
def inV (x : Inn) (p q r : Option Addr) (a b c : Nat) : Value := .agg #[.slice p x.ready.length a, .slice q x.stall.length b, .slice r x.send.length c]
structure InAt (w : World) (x : Inn) (p q r : Option Addr) (a b c : Nat) : Prop where
  ready : BoolsAt w p x.ready
  stall : BoolsAt w q x.stall
  send : BoolsAt w r x.send
  a1 : x.ready.length ≤ a
  a2 : a ≤ 9223372036854775807
  b1 : x.stall.length ≤ b
  b2 : b ≤ 9223372036854775807
  c1 : x.send.length ≤ c
  c2 : c ≤ 9223372036854775807
theorem InAt.below {w w' : World} {x : Inn} {p q r : Option Addr} {a b c : Nat} (h : InAt w x p q r a b c) (hb : Below w.heap.size w w') : InAt w' x p q r a b c :=
  ⟨h.ready.below hb, h.stall.below hb, h.send.below hb, h.a1, h.a2, h.b1, h.b2, h.c1, h.c2⟩
def inOkB (x : Inn) : Bool := decide (x.ready.length = 3) && (decide (x.stall.length = 4) && decide (x.send.length = 3))
theorem inOk_eq (x : Inn) : inOkB x = (((x.ready.length : Int) == 3) && (((x.stall.length : Int) == 4) && ((x.send.length : Int) == 3))) := by
  unfold inOkB
  rw [show decide (x.ready.length = 3) = ((x.ready.length : Int) == 3) by rw [Bool.eq_iff_iff]; simp; omega, show decide (x.stall.length = 4) = ((x.stall.length : Int) == 4) by rw [Bool.eq_iff_iff]; simp; omega, show decide (x.send.length = 3) = ((x.send.length : Int) == 3) by rw [Bool.eq_iff_iff]; simp; omega]
theorem in_nw {w : World} {n : Nat} (o : Obj) (h : n = w.heap.size) : (w.alloc o).heap[n]? = some o := by
  subst h
  show (w.heap.push o)[w.heap.size]? = some o
  simp

set_option maxRecDepth 100000 in
set_option maxHeartbeats 1000000 in
theorem eqIn_same (x : Inn) (p q r p' q' r' : Option Addr) (a b c a' b' c' : Nat) (w : World) (h : InAt w x p q r a b c) (k : InAt w x p' q' r' a' b' c') :
    Calls Try.prog 6 #[inV x p q r a b c, inV x p' q' r' a' b' c'] w fun e w' => e = .returned (.bool true) ∧ Below w.heap.size w w' := by
  have hbl : ∀ o o', Below w.heap.size w ((w.alloc o).alloc o') := fun o o' => ((Below.refl _ w).alloc (Nat.le_refl _) o).alloc (by simp) o'
  have HA := Hid.intro h
  have HK := Hid.intro k
  clear h k
  unfold inV
  go_enter Try.func6, Try.ntmps6
  go_wp2_with fail
  refine (eqBoolS_same p p' a a' x.ready _ (HA.out.ready.below (hbl _ _)) (HK.out.ready.below (hbl _ _)) HA.out.a1 HA.out.a2 HK.out.a1 HK.out.a2).mono ?_
  rintro e w1 ⟨rfl, hb1⟩
  have hs1 := hb1.size
  simp at hs1
  have bA : w1.heap[w.heap.size]? = some (.cells #[.slice p x.ready.length a, .slice q x.stall.length b, .slice r x.send.length c] 24 (0, 0)) := (hb1.block _ (by simp; omega)).trans ((Below.heap_alloc _ _ _ (by simp)).trans (in_nw _ rfl))
  have bB : w1.heap[w.heap.size + 1]? = some (.cells #[.slice p' x.ready.length a', .slice q' x.stall.length b', .slice r' x.send.length c'] 24 (0, 0)) := (hb1.block _ (by simp)).trans (in_nw _ (by simp))
  have hb1' := (hbl _ _).trans (hb1.mono (hbl _ _).size)
  have c1 : w1.cell? ⟨w.heap.size, 1, none⟩ = some (.slice q x.stall.length b) := heap_cell bA 1
  have c2 : w1.cell? ⟨w.heap.size + 1, 1, none⟩ = some (.slice q' x.stall.length b') := heap_cell bB 1
  clear hb1 hbl
  go_wp2_with fail
  refine (eqBoolS_same q q' b b' x.stall w1 (HA.out.stall.below hb1') (HK.out.stall.below hb1') HA.out.b1 HA.out.b2 HK.out.b1 HK.out.b2).mono ?_
  rintro e w2 ⟨rfl, hb2⟩
  have bA2 := (hb2.block _ (by omega)).trans bA
  have bB2 := (hb2.block _ (by omega)).trans bB
  have hb2' := hb1'.trans (hb2.mono hb1'.size)
  clear hb2 hb1' bA bB c1 c2
  have c1 : w2.cell? ⟨w.heap.size, 2, none⟩ = some (.slice r x.send.length c) := heap_cell bA2 2
  have c2 : w2.cell? ⟨w.heap.size + 1, 2, none⟩ = some (.slice r' x.send.length c') := heap_cell bB2 2
  clear bA2 bB2
  go_wp2_with fail
  refine (eqBoolS_same r r' c c' x.send w2 (HA.out.send.below hb2') (HK.out.send.below hb2') HA.out.c1 HA.out.c2 HK.out.c1 HK.out.c2).mono ?_
  rintro e w3 ⟨rfl, hb3⟩
  have hb3' := hb2'.trans (hb3.mono hb2'.size)
  clear hb3 hb2' c1 c2
  go_wp2
  go_ret
  exact ⟨rfl, hb3'⟩

/-- three rows of their own -/
structure InOwn (M : Nat) (w : World) (x : Inn) (g h k : Nat) : Prop where
  ready : ORow 4 1 w g x.ready.length x.ready.length (x.ready.map Value.bool)
  stall : ORow 4 1 w h x.stall.length x.stall.length (x.stall.map Value.bool)
  send : ORow 4 1 w k x.send.length x.send.length (x.send.map Value.bool)
  lo : M ≤ g ∧ M ≤ h ∧ M ≤ k
  gh : g ≠ h
  hk : h ≠ k
  gk : g ≠ k
theorem InOwn.below {M : Nat} {w w' : World} {x : Inn} {g h k : Nat} (o : InOwn M w x g h k) (hb : Below w.heap.size w w') : InOwn M w' x g h k :=
  ⟨o.ready.of (hb.block _ o.ready.lt), o.stall.of (hb.block _ o.stall.lt), o.send.of (hb.block _ o.send.lt), o.lo, o.gh, o.hk, o.gk⟩
theorem InOwn.at {M : Nat} {w : World} {x : Inn} {g h k : Nat} (o : InOwn M w x g h k) (h1 : x.ready.length ≤ 1048576) (h2 : x.stall.length ≤ 1048576) (h3 : x.send.length ≤ 1048576) : InAt w x (some ⟨g, 0, none⟩) (some ⟨h, 0, none⟩) (some ⟨k, 0, none⟩) x.ready.length x.stall.length x.send.length :=
  ⟨o.ready.bools, o.stall.bools, o.send.bools, by omega, by omega, by omega, by omega, by omega, by omega⟩

end Go.Proofs.Ytgcpjddnnamdhab
