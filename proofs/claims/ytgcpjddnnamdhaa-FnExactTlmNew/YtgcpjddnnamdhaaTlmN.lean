/-
  TlmNew of both; a bus at its beginning, marked, held, and whether two are the same.
-/
import Derived.Test.YtgcpjddnnamdhaaAtmM
import Derived.Test.YtgcpjddnnamdhaaAtmN
import Derived.Deep.DeepCutAuto
import Derived.Deep.CutBlock
import Derived.Deep.RegionWith
namespace Go.Proofs.Ytgcpjddnnamdhaa
open Go.RowKit
set_option linter.unusedSimpArgs false
set_option linter.unusedVariables false

set_option maxRecDepth 100000 in
theorem eqJobs_nil (w : World) : Calls Try.prog 57 #[.slice none 0 0, .slice none 0 0] w fun e w' => e = .returned (.bool true) ∧ w' = w := by
  go_enter Try.func57, Try.ntmps57
  go_wp2
  go_loopw [5] (fun i wr => i = .int .i64 0 ∧ wr = w) (fun _ _ => 0)
  case atStart => exact ⟨rfl, rfl⟩
  case round =>
    obtain ⟨rfl, rfl⟩ := hrel
    go_wp2
    go_ret
    exact ⟨rfl, rfl⟩
set_option maxRecDepth 100000 in
theorem markJobs_nil (k0 : Int) (w : World) : Calls Try.prog 60 #[.slice none 0 0, .int .i64 k0] w fun e w' => e = .returned (.int .i64 k0) ∧ w' = w := by
  go_enter Try.func60, Try.ntmps60
  go_wp2
  go_loopw [1, 5] (fun kk i wr => kk = .int .i64 k0 ∧ i = .int .i64 0 ∧ wr = w) (fun _ _ _ => 0)
  case atStart => exact ⟨rfl, rfl, rfl⟩
  case round =>
    obtain ⟨rfl, rfl, rfl⟩ := hrel
    go_wp2
    go_ret
    exact ⟨rfl, rfl⟩
set_option maxRecDepth 100000 in
theorem heldJobs_nil (k0 : Int) (w : World) : Calls Try.prog 63 #[.slice none 0 0, .int .i64 k0] w fun e w' => e = .returned (.int .i64 k0) ∧ w' = w := by
  go_enter Try.func63, Try.ntmps63
  go_wp2
  go_loopw [1, 5] (fun kk i wr => kk = .int .i64 k0 ∧ i = .int .i64 0 ∧ wr = w) (fun _ _ _ => 0)
  case atStart => exact ⟨rfl, rfl, rfl⟩
  case round =>
    obtain ⟨rfl, rfl, rfl⟩ := hrel
    go_wp2
    go_ret
    exact ⟨rfl, rfl⟩

/-- the cells of a bus at its beginning -/
def tCs (g h c a : Nat) : Array Value := #[.slice (some ⟨g, 0, none⟩) 64 64, .slice (some ⟨h, 0, none⟩) 6 c, .slice (some ⟨a, 0, none⟩) 3 3, .slice none 0 0, .slice none 0 0, .slice none 0 0]
def TNew (w : World) (cs : Array Value) (bs : List Nat) : Prop := ∃ g h c a, cs = tCs g h c a ∧ bs = [g, h, a] ∧ ORow 3 1 w g 64 64 ((noughts 64).map (Value.int .i64)) ∧ ORow 3 1 w h c 6 ((freeH 6).map (Value.int .i64)) ∧ (6 ≤ c ∧ c ≤ 9223372036854775807) ∧ ORow 3 1 w a 3 3 ((noughts 3).map (Value.int .i64)) ∧ (g ≠ h ∧ g ≠ a ∧ h ≠ a)
def TMrk (w : World) (cs : Array Value) (bs : List Nat) : Prop := ∃ g h c a, cs = tCs g h c a ∧ bs = [g, h, a] ∧ IntsAt w (some ⟨g, 0, none⟩) (markL 1 64) ∧ IntsAt w (some ⟨h, 0, none⟩) (markL 65 6) ∧ (6 ≤ c ∧ c ≤ 9223372036854775807) ∧ IntsAt w (some ⟨a, 0, none⟩) (markL 71 3)
theorem TNew.lt {w : World} {cs : Array Value} {bs : List Nat} (h : TNew w cs bs) : ∀ b ∈ bs, b < w.heap.size := by
  obtain ⟨g, h, c, a, _, rfl, o1, o2, _, o3, _⟩ := h
  intro b hb
  simp at hb
  rcases hb with rfl | rfl | rfl
  · exact o1.lt
  · exact o2.lt
  · exact o3.lt
theorem TNew.of {w w' : World} {cs : Array Value} {bs : List Nat} (h : TNew w cs bs) (hb : ∀ b ∈ bs, w'.heap[b]? = w.heap[b]?) : TNew w' cs bs := by
  obtain ⟨g, h, c, a, e, rfl, o1, o2, hc, o3, hn⟩ := h
  exact ⟨g, h, c, a, e, rfl, o1.of (hb g (by simp)), o2.of (hb h (by simp)), hc, o3.of (hb a (by simp)), hn⟩
theorem TMrk.of {w w' : World} {cs : Array Value} {bs : List Nat} (h : TMrk w cs bs) (hb : ∀ b ∈ bs, w'.heap[b]? = w.heap[b]?) (hs : w.heap.size ≤ w'.heap.size) : TMrk w' cs bs := by
  obtain ⟨g, h, c, a, e, rfl, o1, o2, hc, o3⟩ := h
  exact ⟨g, h, c, a, e, rfl, o1.of hs (fun b off e _ => by cases e; exact hb g (by simp)), o2.of hs (fun b off e _ => by cases e; exact hb h (by simp)), hc, o3.of hs (fun b off e _ => by cases e; exact hb a (by simp))⟩

theorem st_of_new {w : World} {g h c : Nat} (o1 : ORow 3 1 w g 64 64 ((noughts 64).map (Value.int .i64))) (o2 : ORow 3 1 w h c 6 ((freeH 6).map (Value.int .i64))) (h1 : 6 ≤ c) (h2 : c ≤ 9223372036854775807) : StAt w ⟨noughts 64, freeH 6⟩ (some ⟨g, 0, none⟩) 64 (some ⟨h, 0, none⟩) c :=
  ⟨ORow.ints (l := noughts 64) o1, ORow.ints (l := freeH 6) o2, Nat.le_refl _, by omega, h1, h2⟩

set_option maxRecDepth 100000 in
set_option maxHeartbeats 2000000 in
theorem eqTNew (w : World) {cs cs' : Array Value} {bs bs' : List Nat} (h : TNew w cs bs) (h' : TNew w cs' bs') : Calls Try.prog 22 #[.agg cs, .agg cs'] w fun e w' => e = .returned (.bool true) ∧ Below w.heap.size w w' := by
  obtain ⟨g, h, c, a, rfl, rfl, o1, o2, ⟨hc, hc'⟩, o3, n1⟩ := h
  obtain ⟨g', h', c', a', rfl, rfl, p1, p2, ⟨hd, hd'⟩, p3, n2⟩ := h'
  have hbl : ∀ o o', Below w.heap.size w ((w.alloc o).alloc o') := fun o o' => ((Below.refl _ w).alloc (Nat.le_refl _) o).alloc (by simp) o'
  have HE : Hid (∀ W : World, StAt W ⟨noughts 64, freeH 6⟩ (some ⟨g, 0, none⟩) 64 (some ⟨h, 0, none⟩) c → StAt W ⟨noughts 64, freeH 6⟩ (some ⟨g', 0, none⟩) 64 (some ⟨h', 0, none⟩) c' → Calls Try.prog 56 #[.agg #[.slice (some ⟨g, 0, none⟩) 64 64, .slice (some ⟨h, 0, none⟩) 6 c], .agg #[.slice (some ⟨g', 0, none⟩) 64 64, .slice (some ⟨h', 0, none⟩) 6 c']] W fun e w' => e = .returned (.bool true) ∧ Below W.heap.size W w') := fun W a1 a2 => eqAtm_same ⟨noughts 64, freeH 6⟩ _ _ _ _ _ _ _ _ W a1 a2
  have HI : Hid (∀ W : World, IntsAt W (some ⟨a, 0, none⟩) (noughts 3) → IntsAt W (some ⟨a', 0, none⟩) (noughts 3) → Calls Try.prog 52 #[.slice (some ⟨a, 0, none⟩) 3 3, .slice (some ⟨a', 0, none⟩) 3 3] W fun e w' => e = .returned (.bool true) ∧ Below W.heap.size W w') := fun W a1 a2 => eqIntS_same _ _ 3 3 (noughts 3) W a1 a2 (by decide) (by omega) (by decide) (by omega)
  have S1 := Hid.intro (st_of_new o1 o2 hc hc')
  have S2 := Hid.intro (st_of_new p1 p2 hd hd')
  have A1 := Hid.intro (ORow.ints (l := noughts 3) o3)
  have A2 := Hid.intro (ORow.ints (l := noughts 3) p3)
  clear o1 o2 o3 p1 p2 p3 n1 n2 hc hc' hd hd'
  unfold tCs
  go_enter Try.func22, Try.ntmps22
  go_wp2_with fail
  refine (HE.out _ (S1.out.below (hbl _ _)) (S2.out.below (hbl _ _))).mono ?_
  rintro e w1 ⟨rfl, hb1⟩
  have hs1 := hb1.size
  simp at hs1
  have bA : w1.heap[w.heap.size]? = some (.cells #[.slice (some ⟨g, 0, none⟩) 64 64, .slice (some ⟨h, 0, none⟩) 6 c, .slice (some ⟨a, 0, none⟩) 3 3, .slice none 0 0, .slice none 0 0, .slice none 0 0] 53 (0, 0)) := (hb1.block _ (by simp; omega)).trans ((Below.heap_alloc _ _ _ (by simp)).trans (nw_at _ rfl))
  have bB : w1.heap[w.heap.size + 1]? = some (.cells #[.slice (some ⟨g', 0, none⟩) 64 64, .slice (some ⟨h', 0, none⟩) 6 c', .slice (some ⟨a', 0, none⟩) 3 3, .slice none 0 0, .slice none 0 0, .slice none 0 0] 53 (0, 0)) := (hb1.block _ (by simp)).trans (nw_at _ (by simp))
  have hb1' := (hbl _ _).trans (hb1.mono (hbl _ _).size)
  have d2 : w1.cell? ⟨w.heap.size, 2, none⟩ = some (.slice (some ⟨a, 0, none⟩) 3 3) := heap_cell bA 2
  have e2 : w1.cell? ⟨w.heap.size + 1, 2, none⟩ = some (.slice (some ⟨a', 0, none⟩) 3 3) := heap_cell bB 2
  clear hb1 hbl HE S1 S2
  go_wp2_with fail
  refine (HI.out w1 (A1.out.below hb1') (A2.out.below hb1')).mono ?_
  rintro e w2 ⟨rfl, hb2⟩
  have bA2 := (hb2.block _ (by omega)).trans bA
  have bB2 := (hb2.block _ (by omega)).trans bB
  have hb2' := hb1'.trans (hb2.mono hb1'.size)
  clear hb2 hb1' bA bB d2 e2 HI A1 A2
  have d3 : w2.cell? ⟨w.heap.size, 3, none⟩ = some (.slice none 0 0) := heap_cell bA2 3
  have e3 : w2.cell? ⟨w.heap.size + 1, 3, none⟩ = some (.slice none 0 0) := heap_cell bB2 3
  have d4 : w2.cell? ⟨w.heap.size, 4, none⟩ = some (.slice none 0 0) := heap_cell bA2 4
  have e4 : w2.cell? ⟨w.heap.size + 1, 4, none⟩ = some (.slice none 0 0) := heap_cell bB2 4
  have d5 : w2.cell? ⟨w.heap.size, 5, none⟩ = some (.slice none 0 0) := heap_cell bA2 5
  have e5 : w2.cell? ⟨w.heap.size + 1, 5, none⟩ = some (.slice none 0 0) := heap_cell bB2 5
  clear bA2 bB2
  go_wp2_with (go_at_call 57; refine (eqJobs_nil _).mono ?_; rintro e w' ⟨rfl, rfl⟩)
  go_ret
  exact ⟨rfl, hb2'⟩

theorem mL (k0 : Int) (l : List Int) (k : Nat) (h : l.length = k) {w : World} {p : Option Addr} {c : Nat} (o : OwnI w p c (markL k0 l.length)) : IntsAt w p (markL k0 k) := by rw [← h]; exact o.ints

set_option maxRecDepth 100000 in
set_option maxHeartbeats 2000000 in
theorem markTNew (w : World) {cs : Array Value} {bs : List Nat} (h : TNew w cs bs) : Calls Try.prog 23 #[.agg cs, .int .i64 1] w fun e w' => e = .returned (.int .i64 74) ∧ TMrk w' cs bs ∧ Kept (fun j => j ∈ bs) w w' := by
  obtain ⟨g, h, c, a, rfl, rfl, o1, o2, ⟨hc, hc'⟩, o3, n1, n2, n3⟩ := h
  have hbl : ∀ o, Below w.heap.size w (w.alloc o) := fun o => (Below.refl _ w).alloc (Nat.le_refl _) o
  have lg := o1.lt
  have lh := o2.lt
  have la := o3.lt
  have HM : Hid (∀ W : World, ORow 3 1 W g 64 64 ((noughts 64).map (Value.int .i64)) → ORow 3 1 W h c 6 ((freeH 6).map (Value.int .i64)) → Calls Try.prog 58 #[.agg #[.slice (some ⟨g, 0, none⟩) 64 64, .slice (some ⟨h, 0, none⟩) 6 c], .int .i64 1] W fun e w' => e = .returned (.int .i64 71) ∧ (IntsAt w' (some ⟨g, 0, none⟩) (markL 1 64) ∧ IntsAt w' (some ⟨h, 0, none⟩) (markL 65 6)) ∧ Kept (fun j => j = g ∨ j = h) W w') := by
    intro W q1 q2
    refine (markAtm_any (some ⟨g, 0, none⟩) (some ⟨h, 0, none⟩) 64 c (noughts 64) (freeH 6) 1 W (.inr ⟨g, rfl, q1⟩) (.inr ⟨h, rfl, q2⟩) (.inr (.inr (fun e => n1 (by cases e; rfl)))) (by omega) (by omega) (by decide) (by decide) (by decide) (by omega) hc hc').mono ?_
    rintro e w' ⟨rfl, r1, r2, r3⟩
    refine ⟨rfl, ⟨mL 1 (noughts 64) 64 rfl r1, mL 65 (freeH 6) 6 rfl r2⟩, r3.mono (fun j hj => ?_)⟩
    rcases hj with ⟨_, e⟩ | ⟨_, e⟩
    · cases e; exact .inl rfl
    · cases e; exact .inr rfl
  have HN : Hid (∀ W : World, ORow 3 1 W a 3 3 ((noughts 3).map (Value.int .i64)) → Calls Try.prog 59 #[.slice (some ⟨a, 0, none⟩) 3 3, .int .i64 71] W fun e w' => e = .returned (.int .i64 74) ∧ IntsAt w' (some ⟨a, 0, none⟩) (markL 71 3) ∧ Kept (fun j => j = a) W w') := by
    intro W q
    refine (mark_gen (some ⟨a, 0, none⟩) 3 (noughts 3) 71 W (.inr ⟨a, rfl, q⟩) (by omega) (by omega) (by decide) (by decide) (by omega)).mono ?_
    rintro e w' ⟨rfl, r1, r2⟩
    exact ⟨rfl, mL 71 (noughts 3) 3 rfl r1, r2.mono (fun j e => by cases e; rfl)⟩
  have O1 := Hid.intro o1
  have O2 := Hid.intro o2
  have O3 := Hid.intro o3
  clear o1 o2 o3
  unfold tCs
  go_enter Try.func23, Try.ntmps23
  go_wp2_with fail
  refine (HM.out _ (O1.out.of ((hbl _).block g lg)) (O2.out.of ((hbl _).block h lh))).mono ?_
  rintro e w1 ⟨rfl, ⟨i1, i2⟩, hk1⟩
  have hs1 := hk1.size
  simp at hs1
  have bA : w1.heap[w.heap.size]? = some (.cells #[.slice (some ⟨g, 0, none⟩) 64 64, .slice (some ⟨h, 0, none⟩) 6 c, .slice (some ⟨a, 0, none⟩) 3 3, .slice none 0 0, .slice none 0 0, .slice none 0 0] 53 (0, 0)) := (hk1.block _ (by simp) (by omega)).trans (nw_at _ rfl)
  have o31 := O3.out.of ((hk1.block a (by simp; omega) (by omega)).trans ((hbl _).block a la))
  have hK1 := (Kept.of_below (D := fun j => j = g ∨ j = h) (hbl _)).trans hk1
  have HK1 := Hid.intro hK1
  have I1 := Hid.intro i1
  have I2 := Hid.intro i2
  clear hk1 hK1 i1 i2 O1 O2 O3 HM hbl
  have d2 : w1.cell? ⟨w.heap.size, 2, none⟩ = some (.slice (some ⟨a, 0, none⟩) 3 3) := heap_cell bA 2
  go_wp2_with fail
  refine (HN.out w1 o31).mono ?_
  rintro e w2 ⟨rfl, i3, hk2⟩
  have bA2 := (hk2.block _ (by omega) (by omega)).trans bA
  have HK2 : Hid (Kept (fun j => j ∈ [g, h, a]) w w2) := Hid.intro ((HK1.out.mono (fun j e => by simp; omega)).trans (hk2.mono (fun j e => by simp; omega)))
  have HT : Hid (TMrk w2 (tCs g h c a) [g, h, a]) := ⟨g, h, c, a, rfl, rfl, I1.out.of hk2.size (fun b off e hb => by cases e; exact hk2.block _ hb (by omega)), I2.out.of hk2.size (fun b off e hb => by cases e; exact hk2.block _ hb (by omega)), ⟨hc, hc'⟩, i3⟩
  clear hk2 i3 I1 I2 HK1 bA d2 o31 HN
  have d3 : w2.cell? ⟨w.heap.size, 3, none⟩ = some (.slice none 0 0) := heap_cell bA2 3
  have d4 : w2.cell? ⟨w.heap.size, 4, none⟩ = some (.slice none 0 0) := heap_cell bA2 4
  have d5 : w2.cell? ⟨w.heap.size, 5, none⟩ = some (.slice none 0 0) := heap_cell bA2 5
  clear bA2
  go_wp2_with (go_at_call 60; refine (markJobs_nil _ _).mono ?_; rintro e w' ⟨rfl, rfl⟩)
  go_ret
  exact ⟨rfl, HT.out, HK2.out⟩

set_option maxRecDepth 100000 in
set_option maxHeartbeats 2000000 in
theorem heldTNew (w : World) {cs : Array Value} {bs : List Nat} (h : TMrk w cs bs) : Calls Try.prog 24 #[.agg cs, .int .i64 1] w fun e w' => e = .returned (.int .i64 74) ∧ Below w.heap.size w w' := by
  obtain ⟨g, h, c, a, rfl, rfl, o1, o2, ⟨hc, hc'⟩, o3⟩ := h
  have hbl : ∀ o, Below w.heap.size w (w.alloc o) := fun o => (Below.refl _ w).alloc (Nat.le_refl _) o
  have HM : Hid (∀ W : World, IntsAt W (some ⟨g, 0, none⟩) (markL 1 64) → IntsAt W (some ⟨h, 0, none⟩) (markL 65 6) → Calls Try.prog 61 #[.agg #[.slice (some ⟨g, 0, none⟩) 64 64, .slice (some ⟨h, 0, none⟩) 6 c], .int .i64 1] W fun e w' => e = .returned (.int .i64 71) ∧ Below W.heap.size W w') := by
    intro W q1 q2
    refine (heldAtm_any (some ⟨g, 0, none⟩) (some ⟨h, 0, none⟩) 64 c 64 6 1 W q1 q2 (by omega) (by omega) (by omega) (by omega) (by omega) (by omega) (by omega) (by omega)).mono ?_
    rintro e w' ⟨rfl, r⟩
    exact ⟨rfl, r⟩
  have HN : Hid (∀ W : World, IntsAt W (some ⟨a, 0, none⟩) (markL 71 3) → Calls Try.prog 62 #[.slice (some ⟨a, 0, none⟩) 3 3, .int .i64 71] W fun e w' => e = .returned (.int .i64 74) ∧ w' = W) := by
    intro W q
    refine (held_gen (some ⟨a, 0, none⟩) 3 3 71 W q (by omega) (by omega) (by omega) (by omega) (by omega)).mono ?_
    rintro e w' ⟨rfl, r⟩
    exact ⟨rfl, r⟩
  have O1 := Hid.intro o1
  have O2 := Hid.intro o2
  have O3 := Hid.intro o3
  clear o1 o2 o3
  unfold tCs
  go_enter Try.func24, Try.ntmps24
  go_wp2_with fail
  refine (HM.out _ (O1.out.below (hbl _)) (O2.out.below (hbl _))).mono ?_
  rintro e w1 ⟨rfl, hb1⟩
  have hs1 := hb1.size
  simp at hs1
  have bA : w1.heap[w.heap.size]? = some (.cells #[.slice (some ⟨g, 0, none⟩) 64 64, .slice (some ⟨h, 0, none⟩) 6 c, .slice (some ⟨a, 0, none⟩) 3 3, .slice none 0 0, .slice none 0 0, .slice none 0 0] 53 (0, 0)) := (hb1.block _ (by simp)).trans (nw_at _ rfl)
  have hb1' := (hbl _).trans (hb1.mono (hbl _).size)
  have i3 := O3.out.below hb1'
  clear hb1 hbl O1 O2 O3 HM
  have d2 : w1.cell? ⟨w.heap.size, 2, none⟩ = some (.slice (some ⟨a, 0, none⟩) 3 3) := heap_cell bA 2
  have d3 : w1.cell? ⟨w.heap.size, 3, none⟩ = some (.slice none 0 0) := heap_cell bA 3
  have d4 : w1.cell? ⟨w.heap.size, 4, none⟩ = some (.slice none 0 0) := heap_cell bA 4
  have d5 : w1.cell? ⟨w.heap.size, 5, none⟩ = some (.slice none 0 0) := heap_cell bA 5
  clear bA
  go_wp2_with fail
  refine (HN.out w1 i3).mono ?_
  rintro e w2 ⟨rfl, rfl⟩
  clear i3 HN
  go_wp2_with (go_at_call 63; refine (heldJobs_nil _ _).mono ?_; rintro e w' ⟨rfl, rfl⟩)
  go_ret
  exact ⟨rfl, hb1'⟩

theorem tnew_of {w : World} {g h c a : Nat} (o1 : ORow 3 1 w g 64 64 ((noughts 64).map (Value.int .i64))) (o2 : ORow 3 1 w h c 6 ((freeH 6).map (Value.int .i64))) (hc : 6 ≤ c ∧ c ≤ 9223372036854775807) (o3 : ORow 3 1 w a 3 3 ((noughts 3).map (Value.int .i64))) (n : g ≠ h ∧ g ≠ a ∧ h ≠ a) : TNew w (tCs g h c a) [g, h, a] := ⟨g, h, c, a, rfl, rfl, o1, o2, hc, o3, n⟩
theorem ORow.new3 (w : World) : ORow 3 1 (w.alloc (.cells ((noughts 3).map (Value.int .i64)).toArray 3)) w.heap.size 3 3 ((noughts 3).map (Value.int .i64)) := ORow.new (l := noughts 3)

theorem new_drew (w : World) (o : Obj) : (w.alloc o).drew.heap[w.heap.size]? = some o := nw_at _ rfl
theorem new_drew1 (w : World) (o o' : Obj) : ((w.alloc o).alloc o').drew.heap[w.heap.size]? = some o := (Below.heap_alloc _ _ _ (by simp)).trans (nw_at _ rfl)
theorem put6 {w1 : World} {n : Nat} {T : TypeId} (v0 v1 v2 v3 v4 v5 u0 u1 u2 u3 u4 u5 : Value) (bR : w1.heap[n]? = some (.cells #[u0, u1, u2, u3, u4, u5] T (0, 0))) :
    ((((((w1.setCell ⟨n, 0, none⟩ v0).setCell ⟨n, 1, none⟩ v1).setCell ⟨n, 2, none⟩ v2).setCell ⟨n, 3, none⟩ v3).setCell ⟨n, 4, none⟩ v4).setCell ⟨n, 5, none⟩ v5).heap[n]? = some (.cells #[v0, v1, v2, v3, v4, v5] T (0, 0)) ∧ (∀ k, k ≠ n → ((((((w1.setCell ⟨n, 0, none⟩ v0).setCell ⟨n, 1, none⟩ v1).setCell ⟨n, 2, none⟩ v2).setCell ⟨n, 3, none⟩ v3).setCell ⟨n, 4, none⟩ v4).setCell ⟨n, 5, none⟩ v5).heap[k]? = w1.heap[k]?) ∧ ((((((w1.setCell ⟨n, 0, none⟩ v0).setCell ⟨n, 1, none⟩ v1).setCell ⟨n, 2, none⟩ v2).setCell ⟨n, 3, none⟩ v3).setCell ⟨n, 4, none⟩ v4).setCell ⟨n, 5, none⟩ v5).heap.size = w1.heap.size ∧ (∀ B w, Below B w w1 → B ≤ n → Below B w ((((((w1.setCell ⟨n, 0, none⟩ v0).setCell ⟨n, 1, none⟩ v1).setCell ⟨n, 2, none⟩ v2).setCell ⟨n, 3, none⟩ v3).setCell ⟨n, 4, none⟩ v4).setCell ⟨n, 5, none⟩ v5)) := by
  refine ⟨?_, fun k hk => ?_, by simp, fun B w hb hn => ?_⟩
  · have := (heap_set (heap_set (heap_set (heap_set (heap_set (heap_set bR 0 v0) 1 v1) 2 v2) 3 v3) 4 v4) 5 v5)
    simpa using this
  · exact (heap_set_ne hk).trans ((heap_set_ne hk).trans ((heap_set_ne hk).trans ((heap_set_ne hk).trans ((heap_set_ne hk).trans (heap_set_ne hk)))))
  · exact (((((hb.setCell (p := ⟨n, 0, none⟩) hn _).setCell (p := ⟨n, 1, none⟩) hn _).setCell (p := ⟨n, 2, none⟩) hn _).setCell (p := ⟨n, 3, none⟩) hn _).setCell (p := ⟨n, 4, none⟩) hn _).setCell (p := ⟨n, 5, none⟩) hn _

theorem drewz (w : World) : w.drew.heap.size = w.heap.size := rfl

set_option maxRecDepth 100000 in
theorem impl_TlmNew_ret (Q : Ending → World → Prop) {n : Nat} {t1 t2 t3 : Value} {WF : World} {v0 v1 v2 v3 v4 v5 : Value} (hR : WF.heap[n]? = some (.cells #[v0, v1, v2, v3, v4, v5] 53 (0, 0))) (hQ : Q (.returned (.agg #[v0, v1, v2, v3, v4, v5])) WF) :
    bodyPost Try.prog Try.f21 Q Exit.ret { tmps := #[.pointer (some ⟨n, 0, none⟩), t1, t2, t3], defers := [] } WF := by
  have r0 : WF.cell? ⟨n, 0, none⟩ = some v0 := heap_cell hR 0
  have r1 : WF.cell? ⟨n, 1, none⟩ = some v1 := heap_cell hR 1
  have r2 : WF.cell? ⟨n, 2, none⟩ = some v2 := heap_cell hR 2
  have r3 : WF.cell? ⟨n, 3, none⟩ = some v3 := heap_cell hR 3
  have r4 : WF.cell? ⟨n, 4, none⟩ = some v4 := heap_cell hR 4
  have r5 : WF.cell? ⟨n, 5, none⟩ = some v5 := heap_cell hR 5
  exact bodyPost_ret (v := .agg #[v0, v1, v2, v3, v4, v5]) (by simp [results, Try.results21, go_sem, r0, r1, r2, r3, r4, r5]) rfl hQ

set_option maxRecDepth 100000 in
set_option maxHeartbeats 4000000 in
theorem impl_TlmNew (w : World) : Calls Try.prog 21 #[] w fun e w' => ∃ xp0 xl0 xc0 xp1 xl1 xc1 xp2 xl2 xc2 xp3 xl3 xc3 xp4 xl4 xc4 xp5 xl5 xc5 bs, e = .returned (.agg #[.slice xp0 xl0 xc0, .slice xp1 xl1 xc1, .slice xp2 xl2 xc2, .slice xp3 xl3 xc3, .slice xp4 xl4 xc4, .slice xp5 xl5 xc5]) ∧ TNew w' #[.slice xp0 xl0 xc0, .slice xp1 xl1 xc1, .slice xp2 xl2 xc2, .slice xp3 xl3 xc3, .slice xp4 xl4 xc4, .slice xp5 xl5 xc5] bs ∧ (∀ b ∈ bs, w.heap.size ≤ b) ∧ Below w.heap.size w w' := by
  have hmk : ∀ W : World, (Instr.makeSlice 24 (.int .i64 3) (.int .i64 3)).run Try.prog W = _ := fun W => make_ints 3 (by omega) W
  go_enter Try.func21, Try.ntmps21
  go_wp2_with fail
  go_region_with (go_at_call 55; refine (impl_AtmNew _).mono ?_; rintro e w1 ⟨g, h, rfl, o1, o2, hg, hh, hn, hb⟩; have bR : w1.heap[w.heap.size]? = some (.cells #[.slice none 0 0, .slice none 0 0, .slice none 0 0, .slice none 0 0, .slice none 0 0, .slice none 0 0] 53 (0, 0)) := (hb.block _ (by simp <;> omega)).trans (by first | exact new_drew _ _ | exact new_drew1 _ _ _); have hlt : w.heap.size < w1.heap.size := heap_lt bR; have c0 : w1.cell? ⟨w.heap.size, 0, none⟩ = some (.slice none 0 0) := heap_cell bR 0; have f0 : w1.frozen? ⟨w.heap.size, 0, none⟩ = false := heap_free bR 0; have c1 : w1.cell? ⟨w.heap.size, 1, none⟩ = some (.slice none 0 0) := heap_cell bR 1; have f1 : w1.frozen? ⟨w.heap.size, 1, none⟩ = false := heap_free bR 1; have c2 : w1.cell? ⟨w.heap.size, 2, none⟩ = some (.slice none 0 0) := heap_cell bR 2; have f2 : w1.frozen? ⟨w.heap.size, 2, none⟩ = false := heap_free bR 2; have c3 : w1.cell? ⟨w.heap.size, 3, none⟩ = some (.slice none 0 0) := heap_cell bR 3; have f3 : w1.frozen? ⟨w.heap.size, 3, none⟩ = false := heap_free bR 3; have c4 : w1.cell? ⟨w.heap.size, 4, none⟩ = some (.slice none 0 0) := heap_cell bR 4; have f4 : w1.frozen? ⟨w.heap.size, 4, none⟩ = false := heap_free bR 4; have c5 : w1.cell? ⟨w.heap.size, 5, none⟩ = some (.slice none 0 0) := heap_cell bR 5; have f5 : w1.frozen? ⟨w.heap.size, 5, none⟩ = false := heap_free bR 5)
  all_goals go_wp2
  · obtain ⟨p1, p2, p3, p4⟩ := put6 (.slice (some ⟨g, 0, none⟩) 64 64) (.slice (some ⟨h, 0, none⟩) 6 6) (.slice (some ⟨w1.heap.size, 0, none⟩) 3 3) (.slice none 0 0) (.slice none 0 0) (.slice none 0 0) (.slice none 0 0) (.slice none 0 0) (.slice none 0 0) (.slice none 0 0) (.slice none 0 0) (.slice none 0 0) bR
    have l1 := o1.lt
    have l2 := o2.lt
    have hx := Below.size hb
    simp only [World.size_alloc, drewz] at hx hg hh
    refine impl_TlmNew_ret _ ((Below.heap_alloc _ _ _ (by rw [p3]; exact hlt)).trans p1) ⟨_, _, _, _, _, _, _, _, _, _, _, _, _, _, _, _, _, _, _, rfl, tnew_of ((o1.of (p2 g (by omega))).of (Below.heap_alloc _ _ _ (by rw [p3]; exact l1))) ((o2.of (p2 h (by omega))).of (Below.heap_alloc _ _ _ (by rw [p3]; exact l2))) ⟨by omega, by omega⟩ (by have := ORow.new3 ((((((w1.setCell ⟨w.heap.size, 0, none⟩ (.slice (some ⟨g, 0, none⟩) 64 64)).setCell ⟨w.heap.size, 1, none⟩ (.slice (some ⟨h, 0, none⟩) 6 6)).setCell ⟨w.heap.size, 2, none⟩ (.slice (some ⟨w1.heap.size, 0, none⟩) 3 3)).setCell ⟨w.heap.size, 3, none⟩ (.slice none 0 0)).setCell ⟨w.heap.size, 4, none⟩ (.slice none 0 0)).setCell ⟨w.heap.size, 5, none⟩ (.slice none 0 0)); rw [p3] at this; exact this) ⟨hn, by omega, by omega⟩, ?_, ?_⟩
    · intro b hb; simp at hb; omega
    · exact (p4 _ _ (((Below.refl _ w).alloc (Nat.le_refl _) _).drew.trans (hb.mono (by simp [drewz]))) (Nat.le_refl _)).alloc (by rw [p3]; omega) _
  · obtain ⟨p1, p2, p3, p4⟩ := put6 (.slice (some ⟨g, 0, none⟩) 64 64) (.slice (some ⟨h, 0, none⟩) 6 6) (.slice (some ⟨w.heap.size + 1, 0, none⟩) 3 3) (.slice none 0 0) (.slice none 0 0) (.slice none 0 0) (.slice none 0 0) (.slice none 0 0) (.slice none 0 0) (.slice none 0 0) (.slice none 0 0) (.slice none 0 0) bR
    have l1 := o1.lt
    have l2 := o2.lt
    have hx := Below.size hb
    simp only [World.size_alloc, drewz] at hx hg hh
    have o3 := (ORow.new3 (w.alloc (.cells #[.slice none 0 0, .slice none 0 0, .slice none 0 0, .slice none 0 0, .slice none 0 0, .slice none 0 0] 53))).of (w' := w1) (hb.block _ (by simp [drewz]))
    simp only [World.size_alloc] at o3
    refine impl_TlmNew_ret _ p1 ⟨_, _, _, _, _, _, _, _, _, _, _, _, _, _, _, _, _, _, _, rfl, tnew_of (o1.of (p2 g (by omega))) (o2.of (p2 h (by omega))) ⟨by omega, by omega⟩ (o3.of (p2 _ (by omega))) ⟨hn, by omega, by omega⟩, ?_, ?_⟩
    · intro b hb; simp at hb; omega
    · exact p4 _ _ ((((Below.refl _ w).alloc (Nat.le_refl _) _).alloc (by simp) _).drew.trans (hb.mono (by simp [drewz]; omega))) (Nat.le_refl _)

set_option maxRecDepth 100000 in
theorem spec_TlmNew_ret (Q : Ending → World → Prop) {n : Nat} {t1 t2 t3 : Value} {WF : World} {v0 v1 v2 v3 v4 v5 : Value} (hR : WF.heap[n]? = some (.cells #[v0, v1, v2, v3, v4, v5] 53 (0, 0))) (hQ : Q (.returned (.agg #[v0, v1, v2, v3, v4, v5])) WF) :
    bodyPost Try.prog Try.f20 Q Exit.ret { tmps := #[.pointer (some ⟨n, 0, none⟩), t1, t2, t3], defers := [] } WF := by
  have r0 : WF.cell? ⟨n, 0, none⟩ = some v0 := heap_cell hR 0
  have r1 : WF.cell? ⟨n, 1, none⟩ = some v1 := heap_cell hR 1
  have r2 : WF.cell? ⟨n, 2, none⟩ = some v2 := heap_cell hR 2
  have r3 : WF.cell? ⟨n, 3, none⟩ = some v3 := heap_cell hR 3
  have r4 : WF.cell? ⟨n, 4, none⟩ = some v4 := heap_cell hR 4
  have r5 : WF.cell? ⟨n, 5, none⟩ = some v5 := heap_cell hR 5
  exact bodyPost_ret (v := .agg #[v0, v1, v2, v3, v4, v5]) (by simp [results, Try.results20, go_sem, r0, r1, r2, r3, r4, r5]) rfl hQ

set_option maxRecDepth 100000 in
set_option maxHeartbeats 4000000 in
theorem spec_TlmNew (w : World) : Calls Try.prog 20 #[] w fun e w' => ∃ xp0 xl0 xc0 xp1 xl1 xc1 xp2 xl2 xc2 xp3 xl3 xc3 xp4 xl4 xc4 xp5 xl5 xc5 bs, e = .returned (.agg #[.slice xp0 xl0 xc0, .slice xp1 xl1 xc1, .slice xp2 xl2 xc2, .slice xp3 xl3 xc3, .slice xp4 xl4 xc4, .slice xp5 xl5 xc5]) ∧ TNew w' #[.slice xp0 xl0 xc0, .slice xp1 xl1 xc1, .slice xp2 xl2 xc2, .slice xp3 xl3 xc3, .slice xp4 xl4 xc4, .slice xp5 xl5 xc5] bs ∧ (∀ b ∈ bs, w.heap.size ≤ b) ∧ Below w.heap.size w w' := by
  have hmk : ∀ W : World, (Instr.makeSlice 24 (.int .i64 3) (.int .i64 3)).run Try.prog W = _ := fun W => make_ints 3 (by omega) W
  go_enter Try.func20, Try.ntmps20
  go_wp2_with fail
  go_region_with (go_at_call 54; refine (spec_AtmNew _).mono ?_; rintro e w1 ⟨g, h, c', rfl, o1, o2, hc1, hc2, hg, hh, hn, hb⟩; have bR : w1.heap[w.heap.size]? = some (.cells #[.slice none 0 0, .slice none 0 0, .slice none 0 0, .slice none 0 0, .slice none 0 0, .slice none 0 0] 53 (0, 0)) := (hb.block _ (by simp <;> omega)).trans (by first | exact new_drew _ _ | exact new_drew1 _ _ _); have hlt : w.heap.size < w1.heap.size := heap_lt bR; have c0 : w1.cell? ⟨w.heap.size, 0, none⟩ = some (.slice none 0 0) := heap_cell bR 0; have f0 : w1.frozen? ⟨w.heap.size, 0, none⟩ = false := heap_free bR 0; have c1 : w1.cell? ⟨w.heap.size, 1, none⟩ = some (.slice none 0 0) := heap_cell bR 1; have f1 : w1.frozen? ⟨w.heap.size, 1, none⟩ = false := heap_free bR 1; have c2 : w1.cell? ⟨w.heap.size, 2, none⟩ = some (.slice none 0 0) := heap_cell bR 2; have f2 : w1.frozen? ⟨w.heap.size, 2, none⟩ = false := heap_free bR 2; have c3 : w1.cell? ⟨w.heap.size, 3, none⟩ = some (.slice none 0 0) := heap_cell bR 3; have f3 : w1.frozen? ⟨w.heap.size, 3, none⟩ = false := heap_free bR 3; have c4 : w1.cell? ⟨w.heap.size, 4, none⟩ = some (.slice none 0 0) := heap_cell bR 4; have f4 : w1.frozen? ⟨w.heap.size, 4, none⟩ = false := heap_free bR 4; have c5 : w1.cell? ⟨w.heap.size, 5, none⟩ = some (.slice none 0 0) := heap_cell bR 5; have f5 : w1.frozen? ⟨w.heap.size, 5, none⟩ = false := heap_free bR 5)
  all_goals go_wp2
  · obtain ⟨p1, p2, p3, p4⟩ := put6 (.slice (some ⟨g, 0, none⟩) 64 64) (.slice (some ⟨h, 0, none⟩) 6 c') (.slice (some ⟨w1.heap.size, 0, none⟩) 3 3) (.slice none 0 0) (.slice none 0 0) (.slice none 0 0) (.slice none 0 0) (.slice none 0 0) (.slice none 0 0) (.slice none 0 0) (.slice none 0 0) (.slice none 0 0) bR
    have l1 := o1.lt
    have l2 := o2.lt
    have hx := Below.size hb
    simp only [World.size_alloc, drewz] at hx hg hh
    refine spec_TlmNew_ret _ ((Below.heap_alloc _ _ _ (by rw [p3]; exact hlt)).trans p1) ⟨_, _, _, _, _, _, _, _, _, _, _, _, _, _, _, _, _, _, _, rfl, tnew_of ((o1.of (p2 g (by omega))).of (Below.heap_alloc _ _ _ (by rw [p3]; exact l1))) ((o2.of (p2 h (by omega))).of (Below.heap_alloc _ _ _ (by rw [p3]; exact l2))) ⟨hc1, hc2⟩ (by have := ORow.new3 ((((((w1.setCell ⟨w.heap.size, 0, none⟩ (.slice (some ⟨g, 0, none⟩) 64 64)).setCell ⟨w.heap.size, 1, none⟩ (.slice (some ⟨h, 0, none⟩) 6 c')).setCell ⟨w.heap.size, 2, none⟩ (.slice (some ⟨w1.heap.size, 0, none⟩) 3 3)).setCell ⟨w.heap.size, 3, none⟩ (.slice none 0 0)).setCell ⟨w.heap.size, 4, none⟩ (.slice none 0 0)).setCell ⟨w.heap.size, 5, none⟩ (.slice none 0 0)); rw [p3] at this; exact this) ⟨hn, by omega, by omega⟩, ?_, ?_⟩
    · intro b hb; simp at hb; omega
    · exact (p4 _ _ (((Below.refl _ w).alloc (Nat.le_refl _) _).drew.trans (hb.mono (by simp [drewz]))) (Nat.le_refl _)).alloc (by rw [p3]; omega) _
  · obtain ⟨p1, p2, p3, p4⟩ := put6 (.slice (some ⟨g, 0, none⟩) 64 64) (.slice (some ⟨h, 0, none⟩) 6 c') (.slice (some ⟨w.heap.size + 1, 0, none⟩) 3 3) (.slice none 0 0) (.slice none 0 0) (.slice none 0 0) (.slice none 0 0) (.slice none 0 0) (.slice none 0 0) (.slice none 0 0) (.slice none 0 0) (.slice none 0 0) bR
    have l1 := o1.lt
    have l2 := o2.lt
    have hx := Below.size hb
    simp only [World.size_alloc, drewz] at hx hg hh
    have o3 := (ORow.new3 (w.alloc (.cells #[.slice none 0 0, .slice none 0 0, .slice none 0 0, .slice none 0 0, .slice none 0 0, .slice none 0 0] 53))).of (w' := w1) (hb.block _ (by simp [drewz]))
    simp only [World.size_alloc] at o3
    refine spec_TlmNew_ret _ p1 ⟨_, _, _, _, _, _, _, _, _, _, _, _, _, _, _, _, _, _, _, rfl, tnew_of (o1.of (p2 g (by omega))) (o2.of (p2 h (by omega))) ⟨hc1, hc2⟩ (o3.of (p2 _ (by omega))) ⟨hn, by omega, by omega⟩, ?_, ?_⟩
    · intro b hb; simp at hb; omega
    · exact p4 _ _ ((((Below.refl _ w).alloc (Nat.le_refl _) _).alloc (by simp) _).drew.trans (hb.mono (by simp [drewz]; omega))) (Nat.le_refl _)

end Go.Proofs.Ytgcpjddnnamdhaa
