/-
  What comes from outside: InOk of both; whether two are the same, their size, a copy.
-/
import Derived.Test.YtgcpjddnnamdhaaBRow
import Derived.Test.YtgcpjddnnamdhaaPInt
namespace Go.Proofs.Ytgcpjddnnamdhaa
open Go.RowKit
set_option linter.unusedSimpArgs false
set_option linter.unusedVariables false

/-- what comes from outside in a cycle -/
structure Inn where
  ready : List Bool
  stall : List Bool
  send : List Bool
def inV (x : Inn) (p q r : Option Addr) (a b c : Nat) : Value := .agg #[.slice p x.ready.length a, .slice q x.stall.length b, .slice r x.send.length c]
structure InAt (w : World) (x : Inn) (p q r : Option Addr) (a b c : Nat) : Prop where
  ready : BoolsAt w p x.ready
  stall : BoolsAt w q x.stall
  send : BoolsAt w r x.send
  a1 : x.ready.length ≤ a
  a2 : a ≤ 9223372036854775807
  b1 : x.stall.length ≤ b
  b2 : b ≤ 9223372036854775807
  c1 : x.send.length ≤ c
  c2 : c ≤ 9223372036854775807
theorem InAt.below {w w' : World} {x : Inn} {p q r : Option Addr} {a b c : Nat} (h : InAt w x p q r a b c) (hb : Below w.heap.size w w') : InAt w' x p q r a b c :=
  ⟨h.ready.below hb, h.stall.below hb, h.send.below hb, h.a1, h.a2, h.b1, h.b2, h.c1, h.c2⟩
def inOkB (x : Inn) : Bool := decide (x.ready.length = 3) && (decide (x.stall.length = 4) && decide (x.send.length = 3))
theorem inOk_eq (x : Inn) : inOkB x = (((x.ready.length : Int) == 3) && (((x.stall.length : Int) == 4) && ((x.send.length : Int) == 3))) := by
  unfold inOkB
  rw [show decide (x.ready.length = 3) = ((x.ready.length : Int) == 3) by rw [Bool.eq_iff_iff]; simp; omega, show decide (x.stall.length = 4) = ((x.stall.length : Int) == 4) by rw [Bool.eq_iff_iff]; simp; omega, show decide (x.send.length = 3) = ((x.send.length : Int) == 3) by rw [Bool.eq_iff_iff]; simp; omega]
theorem in_nw {w : World} {n : Nat} (o : Obj) (h : n = w.heap.size) : (w.alloc o).heap[n]? = some o := by
  subst h
  show (w.heap.push o)[w.heap.size]? = some o
  simp

set_option maxRecDepth 100000 in
theorem impl_InOk (x : Inn) (p q r : Option Addr) (a b c : Nat) (w : World) :
    Calls Try.prog 14 #[inV x p q r a b c] w fun e w' => e = .returned (.bool (inOkB x)) ∧ Below w.heap.size w w' := by
  have hbl : ∀ o, Below w.heap.size w (w.alloc o) := fun o => (Below.refl _ w).alloc (Nat.le_refl _) o
  have HE := Hid.intro (inOk_eq x)
  unfold inV
  cases e1 : ((x.ready.length : Int) == 3) <;> cases e2 : ((x.stall.length : Int) == 4) <;> cases e3 : ((x.send.length : Int) == 3)
  all_goals (
    have HF := Hid.intro (HE.out.trans (by rw [e1, e2, e3]))
    go_enter Try.func14, Try.ntmps14
    go_wp2
    go_ret
    exact ⟨by rw [HF.out]; rfl, hbl _⟩)

set_option maxRecDepth 100000 in
theorem spec_InOk (x : Inn) (p q r : Option Addr) (a b c : Nat) (w : World) :
    Calls Try.prog 16 #[inV x p q r a b c] w fun e w' => e = .returned (.bool (inOkB x)) ∧ Below w.heap.size w w' := by
  have hbl : ∀ o, Below w.heap.size w (w.alloc o) := fun o => (Below.refl _ w).alloc (Nat.le_refl _) o
  have HE := Hid.intro (inOk_eq x)
  unfold inV
  cases e1 : ((x.ready.length : Int) == 3) <;> cases e2 : ((x.stall.length : Int) == 4) <;> cases e3 : ((x.send.length : Int) == 3)
  all_goals (
    have HF := Hid.intro (HE.out.trans (by rw [e1, e2, e3]))
    go_enter Try.func16, Try.ntmps16
    go_wp2
    go_ret
    exact ⟨by rw [HF.out]; rfl, hbl _⟩)

set_option maxRecDepth 100000 in
set_option maxHeartbeats 1000000 in
theorem eqIn_same (x : Inn) (p q r p' q' r' : Option Addr) (a b c a' b' c' : Nat) (w : World) (h : InAt w x p q r a b c) (k : InAt w x p' q' r' a' b' c') :
    Calls Try.prog 32 #[inV x p q r a b c, inV x p' q' r' a' b' c'] w fun e w' => e = .returned (.bool true) ∧ Below w.heap.size w w' := by
  have hbl : ∀ o o', Below w.heap.size w ((w.alloc o).alloc o') := fun o o' => ((Below.refl _ w).alloc (Nat.le_refl _) o).alloc (by simp) o'
  have HA := Hid.intro h
  have HK := Hid.intro k
  clear h k
  unfold inV
  go_enter Try.func32, Try.ntmps32
  go_wp2_with fail
  refine (eqBoolS_same p p' a a' x.ready _ (HA.out.ready.below (hbl _ _)) (HK.out.ready.below (hbl _ _)) HA.out.a1 HA.out.a2 HK.out.a1 HK.out.a2).mono ?_
  rintro e w1 ⟨rfl, hb1⟩
  have hs1 := hb1.size
  simp at hs1
  have bA : w1.heap[w.heap.size]? = some (.cells #[.slice p x.ready.length a, .slice q x.stall.length b, .slice r x.send.length c] 35 (0, 0)) := (hb1.block _ (by simp; omega)).trans ((Below.heap_alloc _ _ _ (by simp)).trans (in_nw _ rfl))
  have bB : w1.heap[w.heap.size + 1]? = some (.cells #[.slice p' x.ready.length a', .slice q' x.stall.length b', .slice r' x.send.length c'] 35 (0, 0)) := (hb1.block _ (by simp)).trans (in_nw _ (by simp))
  have hb1' := (hbl _ _).trans (hb1.mono (hbl _ _).size)
  have c1 : w1.cell? ⟨w.heap.size, 1, none⟩ = some (.slice q x.stall.length b) := heap_cell bA 1
  have c2 : w1.cell? ⟨w.heap.size + 1, 1, none⟩ = some (.slice q' x.stall.length b') := heap_cell bB 1
  clear hb1 hbl
  go_wp2_with fail
  refine (eqBoolS_same q q' b b' x.stall w1 (HA.out.stall.below hb1') (HK.out.stall.below hb1') HA.out.b1 HA.out.b2 HK.out.b1 HK.out.b2).mono ?_
  rintro e w2 ⟨rfl, hb2⟩
  have bA2 := (hb2.block _ (by omega)).trans bA
  have bB2 := (hb2.block _ (by omega)).trans bB
  have hb2' := hb1'.trans (hb2.mono hb1'.size)
  clear hb2 hb1' bA bB c1 c2
  have c1 : w2.cell? ⟨w.heap.size, 2, none⟩ = some (.slice r x.send.length c) := heap_cell bA2 2
  have c2 : w2.cell? ⟨w.heap.size + 1, 2, none⟩ = some (.slice r' x.send.length c') := heap_cell bB2 2
  clear bA2 bB2
  go_wp2_with fail
  refine (eqBoolS_same r r' c c' x.send w2 (HA.out.send.below hb2') (HK.out.send.below hb2') HA.out.c1 HA.out.c2 HK.out.c1 HK.out.c2).mono ?_
  rintro e w3 ⟨rfl, hb3⟩
  have hb3' := hb2'.trans (hb3.mono hb2'.size)
  clear hb3 hb2' c1 c2
  go_wp2
  go_ret
  exact ⟨rfl, hb3'⟩

set_option maxRecDepth 100000 in
set_option maxHeartbeats 1000000 in
theorem szIn_any (x : Inn) (p q r : Option Addr) (a b c : Nat) (left : Int) (w : World) (h1 : x.ready.length ≤ 9223372036854775807) (h2 : x.stall.length ≤ 9223372036854775807) (h3 : x.send.length ≤ 9223372036854775807) (h : 0 ≤ left) (h' : left ≤ 1048576) :
    Calls Try.prog 30 #[inV x p q r a b c, .int .i64 left] w fun e w' => e = .returned (.int .i64 (if (x.ready.length : Int) + x.stall.length + x.send.length ≤ left then left - x.ready.length - x.stall.length - x.send.length else -1)) ∧ Below w.heap.size w w' := by
  have hbl : ∀ o, Below w.heap.size w (w.alloc o) := fun o => (Below.refl _ w).alloc (Nat.le_refl _) o
  unfold inV
  by_cases l1 : (x.ready.length : Int) ≤ left
  · have i1 : ¬ (left - (x.ready.length : Int) < 0) := by omega
    by_cases l2 : (x.stall.length : Int) ≤ left - x.ready.length
    · have i2 : ¬ (left - (x.ready.length : Int) - (x.stall.length : Int) < 0) := by omega
      by_cases l3 : (x.send.length : Int) ≤ left - x.ready.length - x.stall.length
      · have i3 : ¬ (left - (x.ready.length : Int) - (x.stall.length : Int) - (x.send.length : Int) < 0) := by omega
        rw [if_pos (by omega)]
        go_enter Try.func30, Try.ntmps30
        go_wp2_with fail
        refine (szBools_any p x.ready.length a left _ h1 h h').mono ?_
        rintro e w1 ⟨rfl, rfl⟩
        rw [if_pos l1]
        go_wp2_with fail
        refine (szBools_any q x.stall.length b _ _ h2 (by omega) (by omega)).mono ?_
        rintro e w2 ⟨rfl, rfl⟩
        rw [if_pos l2]
        go_wp2_with fail
        refine (szBools_any r x.send.length c _ _ h3 (by omega) (by omega)).mono ?_
        rintro e w3 ⟨rfl, rfl⟩
        rw [if_pos l3]
        go_wp2
        go_ret
        exact ⟨rfl, hbl _⟩
      · rw [if_neg (by omega)]
        go_enter Try.func30, Try.ntmps30
        go_wp2_with fail
        refine (szBools_any p x.ready.length a left _ h1 h h').mono ?_
        rintro e w1 ⟨rfl, rfl⟩
        rw [if_pos l1]
        go_wp2_with fail
        refine (szBools_any q x.stall.length b _ _ h2 (by omega) (by omega)).mono ?_
        rintro e w2 ⟨rfl, rfl⟩
        rw [if_pos l2]
        go_wp2_with fail
        refine (szBools_any r x.send.length c _ _ h3 (by omega) (by omega)).mono ?_
        rintro e w3 ⟨rfl, rfl⟩
        rw [if_neg (show ¬ ((x.send.length : Int) ≤ left - x.ready.length - x.stall.length) by omega)]
        go_wp2
        go_ret
        exact ⟨rfl, hbl _⟩
    · rw [if_neg (by omega)]
      go_enter Try.func30, Try.ntmps30
      go_wp2_with fail
      refine (szBools_any p x.ready.length a left _ h1 h h').mono ?_
      rintro e w1 ⟨rfl, rfl⟩
      rw [if_pos l1]
      go_wp2_with fail
      refine (szBools_any q x.stall.length b _ _ h2 (by omega) (by omega)).mono ?_
      rintro e w2 ⟨rfl, rfl⟩
      rw [if_neg (show ¬ ((x.stall.length : Int) ≤ left - x.ready.length) by omega)]
      go_wp2
      go_ret
      exact ⟨rfl, hbl _⟩
  · rw [if_neg (by omega)]
    go_enter Try.func30, Try.ntmps30
    go_wp2_with fail
    refine (szBools_any p x.ready.length a left _ h1 h h').mono ?_
    rintro e w1 ⟨rfl, rfl⟩
    rw [if_neg (show ¬ ((x.ready.length : Int) ≤ left) by omega)]
    go_wp2
    go_ret
    exact ⟨rfl, hbl _⟩

/-- three rows of their own -/
structure InOwn (M : Nat) (w : World) (x : Inn) (g h k : Nat) : Prop where
  ready : ORow 4 1 w g x.ready.length x.ready.length (x.ready.map Value.bool)
  stall : ORow 4 1 w h x.stall.length x.stall.length (x.stall.map Value.bool)
  send : ORow 4 1 w k x.send.length x.send.length (x.send.map Value.bool)
  lo : M ≤ g ∧ M ≤ h ∧ M ≤ k
  gh : g ≠ h
  hk : h ≠ k
  gk : g ≠ k
theorem InOwn.below {M : Nat} {w w' : World} {x : Inn} {g h k : Nat} (o : InOwn M w x g h k) (hb : Below w.heap.size w w') : InOwn M w' x g h k :=
  ⟨o.ready.of (hb.block _ o.ready.lt), o.stall.of (hb.block _ o.stall.lt), o.send.of (hb.block _ o.send.lt), o.lo, o.gh, o.hk, o.gk⟩
theorem InOwn.at {M : Nat} {w : World} {x : Inn} {g h k : Nat} (o : InOwn M w x g h k) (h1 : x.ready.length ≤ 1048576) (h2 : x.stall.length ≤ 1048576) (h3 : x.send.length ≤ 1048576) : InAt w x (some ⟨g, 0, none⟩) (some ⟨h, 0, none⟩) (some ⟨k, 0, none⟩) x.ready.length x.stall.length x.send.length :=
  ⟨o.ready.bools, o.stall.bools, o.send.bools, by omega, by omega, by omega, by omega, by omega, by omega⟩

set_option maxRecDepth 100000 in
set_option maxHeartbeats 2000000 in
theorem toIn_any (x : Inn) (p q r : Option Addr) (a b c : Nat) (w : World) (hx : InAt w x p q r a b c) (l1 : x.ready.length ≤ 1048576) (l2 : x.stall.length ≤ 1048576) (l3 : x.send.length ≤ 1048576) :
    Calls Try.prog 31 #[inV x p q r a b c] w fun e w' => ∃ g h k, e = .returned (inV x (some ⟨g, 0, none⟩) (some ⟨h, 0, none⟩) (some ⟨k, 0, none⟩) x.ready.length x.stall.length x.send.length) ∧ InOwn w.heap.size w' x g h k ∧ Below w.heap.size w w' := by
  have hbl : ∀ o o' o'', Below w.heap.size w (((w.alloc o).alloc o').alloc o'') := fun o o' o'' => (((Below.refl _ w).alloc (Nat.le_refl _) o).alloc (by simp) o').alloc (by simp <;> omega) o''
  have HA := Hid.intro hx
  clear hx
  unfold inV
  go_enter Try.func31, Try.ntmps31
  go_wp2_with fail
  refine (toBools_any p a x.ready _ (HA.out.below (hbl _ _ _)).ready HA.out.a1 HA.out.a2 l1).mono ?_
  rintro e w1 ⟨rfl, hO1, hb1⟩
  have hs1 := hb1.size
  have hl1 := hO1.lt
  simp only [World.size_alloc, Nat.add_assoc, Nat.reduceAdd] at hO1 hs1 hl1 ⊢
  have bA : w1.heap[w.heap.size]? = some (.cells #[.slice p x.ready.length a, .slice q x.stall.length b, .slice r x.send.length c] 64 (0, 0)) := (hb1.block w.heap.size (by simp <;> omega)).trans ((Below.heap_alloc _ _ _ (by simp; omega)).trans ((Below.heap_alloc _ _ _ (by simp)).trans (in_nw _ rfl)))
  have bR : w1.heap[w.heap.size + 1]? = some (.cells #[.slice none 0 0, .slice none 0 0, .slice none 0 0] 35 (0, 0)) := (hb1.block (w.heap.size + 1) (by simp <;> omega)).trans ((Below.heap_alloc _ _ _ (by simp)).trans (in_nw _ (by simp)))
  have bO : w1.heap[w.heap.size + 2]? = some (.cells #[.slice none 0 0, .slice none 0 0, .slice none 0 0] 35 (0, 0)) := (hb1.block (w.heap.size + 2) (by simp)).trans (in_nw _ (by simp))
  have hb1' := (hbl _ _ _).trans (hb1.mono (hbl _ _ _).size)
  clear hb1 hbl
  have a1 : w1.cell? ⟨w.heap.size, 1, none⟩ = some (.slice q x.stall.length b) := heap_cell bA 1
  have o0 : w1.cell? ⟨w.heap.size + 2, 0, none⟩ = some (.slice none 0 0) := heap_cell bO 0
  have f0 : w1.frozen? ⟨w.heap.size + 2, 0, none⟩ = false := heap_free bO 0
  go_wp2_with fail
  obtain ⟨v1, hv1⟩ : ∃ v1, w1.setCell ⟨w.heap.size + 2, 0, none⟩ (.slice (some ⟨w.heap.size + 3, 0, none⟩) x.ready.length x.ready.length) = v1 := ⟨_, rfl⟩
  have hz1 : v1.heap.size = w1.heap.size := by rw [← hv1]; simp
  have hn1 : ∀ k, k ≠ w.heap.size + 2 → v1.heap[k]? = w1.heap[k]? := fun k hk => by rw [← hv1]; exact heap_set_ne hk
  have cO := heap_set bO 0 (.slice (some ⟨w.heap.size + 3, 0, none⟩) x.ready.length x.ready.length)
  rw [hv1] at cO ⊢
  have cA := (hn1 _ (by omega)).trans bA
  have cR := (hn1 _ (by omega)).trans bR
  have cP1 := hO1.of (hn1 _ (by omega))
  have hB1 : Below w.heap.size w v1 := by rw [← hv1]; exact hb1'.setCell (p := ⟨w.heap.size + 2, 0, none⟩) (by simp) _
  clear hv1 hn1 bA bR bO hO1 hb1' a1 o0 f0
  refine (toBools_any q b x.stall v1 (HA.out.below hB1).stall HA.out.b1 HA.out.b2 l2).mono ?_
  rintro e w2 ⟨rfl, hO2, hb2⟩
  have hs2 := hb2.size
  have hl2 := hO2.lt
  have bA := (hb2.block _ (by omega)).trans cA
  have bR := (hb2.block _ (by omega)).trans cR
  have bO := (hb2.block _ (by omega)).trans cO
  have bP1 := cP1.of (hb2.block _ (by omega))
  have hb2' := hB1.trans (hb2.mono hB1.size)
  obtain ⟨H, hH⟩ : ∃ H, H = v1.heap.size := ⟨_, rfl⟩
  rw [← hH] at hO2 hs2 hl2 ⊢
  clear hb2 cA cR cO cP1 hB1
  simp at bO
  have a1 : w2.cell? ⟨w.heap.size, 2, none⟩ = some (.slice r x.send.length c) := heap_cell bA 2
  have o0 : w2.cell? ⟨w.heap.size + 2, 1, none⟩ = some (.slice none 0 0) := heap_cell bO 1
  have f0 : w2.frozen? ⟨w.heap.size + 2, 1, none⟩ = false := heap_free bO 1
  have hHw : w.heap.size + 3 < H := by omega
  clear hH hz1 hs1 hl1
  go_wp2_with fail
  obtain ⟨v2, hv2⟩ : ∃ v2, w2.setCell ⟨w.heap.size + 2, 1, none⟩ (.slice (some ⟨H, 0, none⟩) x.stall.length x.stall.length) = v2 := ⟨_, rfl⟩
  have hz2 : v2.heap.size = w2.heap.size := by rw [← hv2]; simp
  have hn2 : ∀ k, k ≠ w.heap.size + 2 → v2.heap[k]? = w2.heap[k]? := fun k hk => by rw [← hv2]; exact heap_set_ne hk
  have cO := heap_set bO 1 (.slice (some ⟨H, 0, none⟩) x.stall.length x.stall.length)
  rw [hv2] at cO ⊢
  have cR := (hn2 _ (by omega)).trans bR
  have cP1 := bP1.of (hn2 _ (by omega))
  have cP2 := hO2.of (hn2 _ (by omega))
  have hB2 : Below w.heap.size w v2 := by rw [← hv2]; exact hb2'.setCell (p := ⟨w.heap.size + 2, 1, none⟩) (by simp) _
  clear hv2 hn2 bA bR bO hO2 hb2' bP1 a1 o0 f0
  refine (toBools_any r c x.send v2 (HA.out.below hB2).send HA.out.c1 HA.out.c2 l3).mono ?_
  rintro e w3 ⟨rfl, hO3, hb3⟩
  have hs3 := hb3.size
  have hl3 := hO3.lt
  have bR := (hb3.block _ (by omega)).trans cR
  have bO := (hb3.block _ (by omega)).trans cO
  have bP1 := cP1.of (hb3.block _ (by omega))
  have bP2 := cP2.of (hb3.block _ (by omega))
  have hb3' := hB2.trans (hb3.mono hB2.size)
  obtain ⟨K, hK⟩ : ∃ K, K = v2.heap.size := ⟨_, rfl⟩
  rw [← hK] at hO3 hs3 hl3 ⊢
  have hKw : H < K := by omega
  clear hb3 cR cO cP1 cP2 hB2 hK hz2 hs2 hl2
  simp at bO
  have o0 : w3.cell? ⟨w.heap.size + 2, 0, none⟩ = some (.slice (some ⟨w.heap.size + 3, 0, none⟩) x.ready.length x.ready.length) := heap_cell bO 0
  have o1 : w3.cell? ⟨w.heap.size + 2, 1, none⟩ = some (.slice (some ⟨H, 0, none⟩) x.stall.length x.stall.length) := heap_cell bO 1
  have o2 : w3.cell? ⟨w.heap.size + 2, 2, none⟩ = some (.slice none 0 0) := heap_cell bO 2
  have f2 : w3.frozen? ⟨w.heap.size + 2, 2, none⟩ = false := heap_free bO 2
  have q0 : w3.cell? ⟨w.heap.size + 1, 0, none⟩ = some (.slice none 0 0) := heap_cell bR 0
  have q1 : w3.cell? ⟨w.heap.size + 1, 1, none⟩ = some (.slice none 0 0) := heap_cell bR 1
  have q2 : w3.cell? ⟨w.heap.size + 1, 2, none⟩ = some (.slice none 0 0) := heap_cell bR 2
  have fq0 : w3.frozen? ⟨w.heap.size + 1, 0, none⟩ = false := heap_free bR 0
  have fq1 : w3.frozen? ⟨w.heap.size + 1, 1, none⟩ = false := heap_free bR 1
  have fq2 : w3.frozen? ⟨w.heap.size + 1, 2, none⟩ = false := heap_free bR 2
  have bR4 := (heap_set_ne (w := w3) (b := w.heap.size + 2) (k := w.heap.size + 1) (i := 2) (v := (.slice (some ⟨K, 0, none⟩) x.send.length x.send.length)) (by omega)).trans bR
  have hf := heap_set (heap_set (heap_set bR4 0 (.slice (some ⟨w.heap.size + 3, 0, none⟩) x.ready.length x.ready.length)) 1 (.slice (some ⟨H, 0, none⟩) x.stall.length x.stall.length)) 2 (.slice (some ⟨K, 0, none⟩) x.send.length x.send.length)
  have r0 := heap_cell hf 0
  have r1 := heap_cell hf 1
  have r2 := heap_cell hf 2
  simp at r0 r1 r2
  have hne : ∀ k, k ≠ w.heap.size + 1 → k ≠ w.heap.size + 2 → ((((w3.setCell ⟨w.heap.size + 2, 2, none⟩ (.slice (some ⟨K, 0, none⟩) x.send.length x.send.length)).setCell ⟨w.heap.size + 1, 0, none⟩ (.slice (some ⟨w.heap.size + 3, 0, none⟩) x.ready.length x.ready.length)).setCell ⟨w.heap.size + 1, 1, none⟩ (.slice (some ⟨H, 0, none⟩) x.stall.length x.stall.length)).setCell ⟨w.heap.size + 1, 2, none⟩ (.slice (some ⟨K, 0, none⟩) x.send.length x.send.length)).heap[k]? = w3.heap[k]? := fun k h1 h2 => ((heap_set_ne h1).trans ((heap_set_ne h1).trans (heap_set_ne h1))).trans (heap_set_ne h2)
  have HP : Hid (InOwn w.heap.size ((((w3.setCell ⟨w.heap.size + 2, 2, none⟩ (.slice (some ⟨K, 0, none⟩) x.send.length x.send.length)).setCell ⟨w.heap.size + 1, 0, none⟩ (.slice (some ⟨w.heap.size + 3, 0, none⟩) x.ready.length x.ready.length)).setCell ⟨w.heap.size + 1, 1, none⟩ (.slice (some ⟨H, 0, none⟩) x.stall.length x.stall.length)).setCell ⟨w.heap.size + 1, 2, none⟩ (.slice (some ⟨K, 0, none⟩) x.send.length x.send.length)) x (w.heap.size + 3) H K) := ⟨bP1.of (hne _ (by omega) (by omega)), bP2.of (hne _ (by omega) (by omega)), hO3.of (hne _ (by omega) (by omega)), ⟨by omega, by omega, by omega⟩, by omega, by omega, by omega⟩
  have HB : Hid (Below w.heap.size w ((((w3.setCell ⟨w.heap.size + 2, 2, none⟩ (.slice (some ⟨K, 0, none⟩) x.send.length x.send.length)).setCell ⟨w.heap.size + 1, 0, none⟩ (.slice (some ⟨w.heap.size + 3, 0, none⟩) x.ready.length x.ready.length)).setCell ⟨w.heap.size + 1, 1, none⟩ (.slice (some ⟨H, 0, none⟩) x.stall.length x.stall.length)).setCell ⟨w.heap.size + 1, 2, none⟩ (.slice (some ⟨K, 0, none⟩) x.send.length x.send.length))) := ((((hb3'.setCell (p := ⟨w.heap.size + 2, 2, none⟩) (by simp) _).setCell (p := ⟨w.heap.size + 1, 0, none⟩) (by simp) _).setCell (p := ⟨w.heap.size + 1, 1, none⟩) (by simp) _).setCell (p := ⟨w.heap.size + 1, 2, none⟩) (by simp) _)
  clear hf hne hO3 bR bO bR4 hb3' HA bP1 bP2
  go_wp2
  refine bodyPost_ret (v := .agg #[.slice (some ⟨w.heap.size + 3, 0, none⟩) x.ready.length x.ready.length, .slice (some ⟨H, 0, none⟩) x.stall.length x.stall.length, .slice (some ⟨K, 0, none⟩) x.send.length x.send.length]) (by simp [results, Try.results31, go_sem, r0, r1, r2]) rfl ⟨w.heap.size + 3, H, K, rfl, HP.out, HB.out⟩

end Go.Proofs.Ytgcpjddnnamdhaa
