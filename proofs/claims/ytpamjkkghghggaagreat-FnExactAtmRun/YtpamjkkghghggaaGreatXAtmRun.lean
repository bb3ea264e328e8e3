/-
  The law FnExactAtmRun, walked, by what AtmRun of the program answers.
-/
import Derived.Test.YtpamjkkghghggaaGreatRows
import Derived.Test.YtpamjkkghghggaaGreatKRunBM
import Derived.Test.YtpamjkkghghggaaGreatRunKM
import Derived.Test.YtpamjkkghghggaaGreatOpsXM
namespace Go.Proofs.YtpamjkkghghggaaGreat
open Go.RowKit
set_option linter.unusedSimpArgs false
set_option linter.unusedVariables false

theorem kbS : KBlk yAtmState := yAtmState_law.blk
theorem kb4 : KBlk (gPair (gBox 34 yAtmState) yRspRspS) := kbS.box.pair yRspRspS_law.blk
theorem kb3 : KBlk (gPair yReqReqS (gPair (gBox 34 yAtmState) yRspRspS)) := yReqReqS_law.blk.pair kb4
theorem kb2 : KBlk (gPair (gBox 34 yAtmState) (gPair yReqReqS (gPair (gBox 34 yAtmState) yRspRspS))) := kbS.box.pair kb3
theorem kb1 : KBlk (gPair yMapRangeS (gPair (gBox 34 yAtmState) (gPair yReqReqS (gPair (gBox 34 yAtmState) yRspRspS)))) := yMapRangeS_law.blk.pair kb2

/-- AtmRun by the kinds of its arguments -/
theorem run_do {F : Nat} (hF : AtmRunF F) {m : (List (Int × Int × Int × Bool))} {s : (List Int × List Int)} {who : Int} {q : (List (Int × Int × Int × Int × Bool × List Int × List Int))} {z0 : (List Int × List Int)} {z1 : (List (Int × Int × List Int))} (hz : runPl m s who q = (z0, z1)) (M : Nat) (vm vs vq : Value) (W : World) (hM : M ≤ W.heap.size) (h1 : kOw yMapRangeS m W vm) (h2 : kOw yAtmState s W vs) (h3 : kOw yReqReqS q W vq) :
    Calls Tryz.prog F #[vm, vs, .int .i64 who, vq] W fun e w' => (∃ v, e = .returned v ∧ Ans2 yAtmState yRspRspS z0 z1 M w' v) ∧ Below W.heap.size W w' := by
  obtain ⟨a, rfl, e1, g1⟩ := h1
  obtain ⟨b, rfl, e2, g2⟩ := h2
  obtain ⟨c, rfl, e3, g3⟩ := h3
  have := run_kinds hF a b who c W (yMapRangeS_law.ow_rd g1) (yAtmState_law.ow_rd g2) (yReqReqS_law.ow_rd g3)
  rw [e1, e2, e3, hz] at this
  refine this.mono ?_
  rintro e w' ⟨⟨v, rfl, hv⟩, hb⟩
  exact ⟨⟨v, rfl, hv.mono hM⟩, hb⟩

namespace fnExactAtmRun
def fl_xra (vl vs vw vq : Value) (B5 : Nat) (KM KS KQ : World → Value → Prop) (M : Nat) (K5 : World → Value → Prop) : List Fact := [
  fIs 38 (vl),
  fK 39 KM,
  fIs 40 (vs),
  fK 41 KS,
  fIs 42 (vw),
  fIs 43 (vq),
  fK 44 KQ,
  fK 45 K5,
  fK 37 K5,
  ⟨[37, 46], [], fun s _ _ => ∃ b, s 37 = .tuple #[s 46, b]⟩,
  ⟨[37, 47], [], fun s _ _ => ∃ b, s 37 = .tuple #[b, s 47]⟩,
  ⟨[10], [], fun s _ w => ∃ b v0 v1, s 10 = .pointer (some ⟨b, 0, none⟩) ∧ M ≤ b ∧ w.heap[b]? = some (.cells #[v0, v1] 34 (0, 0))⟩,
  ⟨[10, 46], [], fun s _ w => ∃ b v0 v1, s 10 = .pointer (some ⟨b, 0, none⟩) ∧ M ≤ b ∧ s 46 = .agg #[v0, v1] ∧ w.heap[b]? = some (.cells #[v0, v1] 34 (0, 0))⟩,
  ⟨[47, 11], [], fun s _ _ => s 11 = s 47⟩]

theorem st_xra (vl vs vw vq : Value) (B5 : Nat) (KM KS KQ : World → Value → Prop) (M : Nat) (K5 : World → Value → Prop) (h5g : ∀ w w' v, Gr w w' → K5 w v → K5 w' v) (hMg : ∀ w w' v, Gr w w' → KM w v → KM w' v) (hMt : ∀ w w' v, KT 34 w w' → KM w v → KM w' v) (hSg : ∀ w w' v, Gr w w' → KS w v → KS w' v) (hSt : ∀ w w' v, KT 34 w w' → KS w v → KS w' v) (hQg : ∀ w w' v, Gr w w' → KQ w v → KQ w' v) (hQt : ∀ w w' v, KT 34 w w' → KQ w v → KQ w' v) : ∀ F ∈ fl_xra vl vs vw vq B5 KM KS KQ M K5, F.Stab :=
  stab_cons (fIs_stab _ _) <|
  stab_cons (fK_stab hMg) <|
  stab_cons (fIs_stab _ _) <|
  stab_cons (fK_stab hSg) <|
  stab_cons (fIs_stab _ _) <|
  stab_cons (fIs_stab _ _) <|
  stab_cons (fK_stab hQg) <|
  stab_cons (fK_stab h5g) <|
  stab_cons (fK_stab h5g) <|
  stab_cons (fun _ _ _ _ _ h => h) <|
  stab_cons (fun _ _ _ _ _ h => h) <|
  stab_cons (fun _ _ _ _ hg h => (let ⟨b, v0, v1, h1, h2, h3⟩ := h; ⟨b, v0, v1, h1, h2, hg.cells h3⟩)) <|
  stab_cons (fun _ _ _ _ hg h => (let ⟨b, v0, v1, h1, h2, h3, h4⟩ := h; ⟨b, v0, v1, h1, h2, h3, hg.cells h4⟩)) <|
  stab_cons (fun _ _ _ _ _ h => h) stab_nil

theorem kta_xra (vl vs vw vq : Value) (B5 : Nat) (KM KS KQ : World → Value → Prop) (M : Nat) (K5 : World → Value → Prop) (h5t : ∀ w w' v, KT 34 w w' → K5 w v → K5 w' v) (hMg : ∀ w w' v, Gr w w' → KM w v → KM w' v) (hMt : ∀ w w' v, KT 34 w w' → KM w v → KM w' v) (hSg : ∀ w w' v, Gr w w' → KS w v → KS w' v) (hSt : ∀ w w' v, KT 34 w w' → KS w v → KS w' v) (hQg : ∀ w w' v, Gr w w' → KQ w v → KQ w' v) (hQt : ∀ w w' v, KT 34 w w' → KQ w v → KQ w' v) : ∀ j, [11, 12].contains j = false → ∀ s d w w', KT 34 w w' → (factsOf (fl_xra vl vs vw vq B5 KM KS KQ M K5) j).body s d w → (factsOf (fl_xra vl vs vw vq B5 KM KS KQ M K5) j).body s d w' := by
  intro j hj s d w w' hk hb
  rcases j with _ | _ | _ | _ | _ | _ | _ | _ | _ | _ | _ | _ | _ | _ | j
  · exact hb
  · exact hMt _ _ _ hk hb
  · exact hb
  · exact hSt _ _ _ hk hb
  · exact hb
  · exact hb
  · exact hQt _ _ _ hk hb
  · exact h5t _ _ _ hk hb
  · exact h5t _ _ _ hk hb
  · exact hb
  · exact hb
  · simp at hj
  · simp at hj
  · exact hb
  · trivial

theorem aska_xra {vl vs vw vq : Value} {B5 : Nat} {KM KS KQ : World → Value → Prop} {M : Nat} {K5 : World → Value → Prop} (j : Nat) (hj : j < 14) (h : [11, 12].contains j = true ∨ (factsOf (fl_xra vl vs vw vq B5 KM KS KQ M K5) j).dones.contains 12 = true) : j = 11 ∨ j = 12 := by
  rcases j with _ | _ | _ | _ | _ | _ | _ | _ | _ | _ | _ | _ | _ | _ | j
  all_goals first | omega | (rcases h with h | h <;> exact absurd (show false = true from h) (by decide))

def fl_xrb (vl vs vw vq : Value) (B5 : Nat) (KM KS KQ : World → Value → Prop) (M : Nat) (K5 : World → Value → Prop) : List Fact := [
  fIs 130 (vl),
  fK 131 KM,
  fIs 132 (vs),
  fK 133 KS,
  fIs 134 (vw),
  fIs 135 (vq),
  fK 136 KQ,
  fK 137 K5,
  fK 129 K5,
  ⟨[129, 138], [], fun s _ _ => ∃ b, s 129 = .tuple #[s 138, b]⟩,
  ⟨[129, 139], [], fun s _ _ => ∃ b, s 129 = .tuple #[b, s 139]⟩,
  ⟨[20], [], fun s _ w => ∃ b v0 v1, s 20 = .pointer (some ⟨b, 0, none⟩) ∧ M ≤ b ∧ w.heap[b]? = some (.cells #[v0, v1] 34 (0, 0))⟩,
  ⟨[20, 138], [], fun s _ w => ∃ b v0 v1, s 20 = .pointer (some ⟨b, 0, none⟩) ∧ M ≤ b ∧ s 138 = .agg #[v0, v1] ∧ w.heap[b]? = some (.cells #[v0, v1] 34 (0, 0))⟩,
  ⟨[139, 21], [], fun s _ _ => s 21 = s 139⟩]

theorem st_xrb (vl vs vw vq : Value) (B5 : Nat) (KM KS KQ : World → Value → Prop) (M : Nat) (K5 : World → Value → Prop) (h5g : ∀ w w' v, Gr w w' → K5 w v → K5 w' v) (hMg : ∀ w w' v, Gr w w' → KM w v → KM w' v) (hMt : ∀ w w' v, KT 34 w w' → KM w v → KM w' v) (hSg : ∀ w w' v, Gr w w' → KS w v → KS w' v) (hSt : ∀ w w' v, KT 34 w w' → KS w v → KS w' v) (hQg : ∀ w w' v, Gr w w' → KQ w v → KQ w' v) (hQt : ∀ w w' v, KT 34 w w' → KQ w v → KQ w' v) : ∀ F ∈ fl_xrb vl vs vw vq B5 KM KS KQ M K5, F.Stab :=
  stab_cons (fIs_stab _ _) <|
  stab_cons (fK_stab hMg) <|
  stab_cons (fIs_stab _ _) <|
  stab_cons (fK_stab hSg) <|
  stab_cons (fIs_stab _ _) <|
  stab_cons (fIs_stab _ _) <|
  stab_cons (fK_stab hQg) <|
  stab_cons (fK_stab h5g) <|
  stab_cons (fK_stab h5g) <|
  stab_cons (fun _ _ _ _ _ h => h) <|
  stab_cons (fun _ _ _ _ _ h => h) <|
  stab_cons (fun _ _ _ _ hg h => (let ⟨b, v0, v1, h1, h2, h3⟩ := h; ⟨b, v0, v1, h1, h2, hg.cells h3⟩)) <|
  stab_cons (fun _ _ _ _ hg h => (let ⟨b, v0, v1, h1, h2, h3, h4⟩ := h; ⟨b, v0, v1, h1, h2, h3, hg.cells h4⟩)) <|
  stab_cons (fun _ _ _ _ _ h => h) stab_nil

theorem kta_xrb (vl vs vw vq : Value) (B5 : Nat) (KM KS KQ : World → Value → Prop) (M : Nat) (K5 : World → Value → Prop) (h5t : ∀ w w' v, KT 34 w w' → K5 w v → K5 w' v) (hMg : ∀ w w' v, Gr w w' → KM w v → KM w' v) (hMt : ∀ w w' v, KT 34 w w' → KM w v → KM w' v) (hSg : ∀ w w' v, Gr w w' → KS w v → KS w' v) (hSt : ∀ w w' v, KT 34 w w' → KS w v → KS w' v) (hQg : ∀ w w' v, Gr w w' → KQ w v → KQ w' v) (hQt : ∀ w w' v, KT 34 w w' → KQ w v → KQ w' v) : ∀ j, [11, 12].contains j = false → ∀ s d w w', KT 34 w w' → (factsOf (fl_xrb vl vs vw vq B5 KM KS KQ M K5) j).body s d w → (factsOf (fl_xrb vl vs vw vq B5 KM KS KQ M K5) j).body s d w' := by
  intro j hj s d w w' hk hb
  rcases j with _ | _ | _ | _ | _ | _ | _ | _ | _ | _ | _ | _ | _ | _ | j
  · exact hb
  · exact hMt _ _ _ hk hb
  · exact hb
  · exact hSt _ _ _ hk hb
  · exact hb
  · exact hb
  · exact hQt _ _ _ hk hb
  · exact h5t _ _ _ hk hb
  · exact h5t _ _ _ hk hb
  · exact hb
  · exact hb
  · simp at hj
  · simp at hj
  · exact hb
  · trivial

theorem aska_xrb {vl vs vw vq : Value} {B5 : Nat} {KM KS KQ : World → Value → Prop} {M : Nat} {K5 : World → Value → Prop} (j : Nat) (hj : j < 14) (h : [11, 12].contains j = true ∨ (factsOf (fl_xrb vl vs vw vq B5 KM KS KQ M K5) j).dones.contains 12 = true) : j = 11 ∨ j = 12 := by
  rcases j with _ | _ | _ | _ | _ | _ | _ | _ | _ | _ | _ | _ | _ | _ | j
  all_goals first | omega | (rcases h with h | h <;> exact absurd (show false = true from h) (by decide))

set_option maxRecDepth 100000 in
set_option maxHeartbeats 8000000 in
theorem walk (hI : AtmRunC) (a : (Lst (Int × Int × Int × Bool))) (s : (Lst Int × Lst Int)) (who : Int) (q : (Lst (Int × Int × Int × Int × Bool × Lst Int × Lst Int))) (w : World) (hr0 : yMapRangeS.rd w a) (hr1 : yAtmState.rd w s) (hr3 : yReqReqS.rd w q) :
    Calls Tryz.prog 3 #[yMapRangeS.val a, yAtmState.val s, .int .i64 who, yReqReqS.val q] w fun e w' => e = .returned (.bool true) ∧ Below w.heap.size w w' := by
  obtain ⟨s_0_0, s_1⟩ := s
  have HI := Hid.intro hI
  have HR := Hid.intro (And.intro hr0 (And.intro hr1 hr3))
  clear hI hr0 hr1 hr3
  have hbl : Below w.heap.size w (w.alloc (.cells #[.slice s_0_0.p s_0_0.l.length s_0_0.c, .slice s_1.p s_1.l.length s_1.c] 27)) := (Below.refl _ w).alloc (Nat.le_refl _) _
  show Calls Tryz.prog 3 #[.slice a.p a.l.length a.c, .agg #[.slice s_0_0.p s_0_0.l.length s_0_0.c, .slice s_1.p s_1.l.length s_1.c], .int .i64 who, .slice q.p q.l.length q.c] w _
  go_enter Tryz.func3, Tryz.ntmps3
  go_wp2_with fail
  refine (yMapRangeS_sz a 1048576 _ (yMapRangeS_law.rd_blw HR.out.1 hbl) (by decide) (by decide)).mono ?_
  rintro e w1 ⟨⟨x0, rfl, hz0⟩, hb⟩
  have bel0 : Below w.heap.size w w1 := hbl.trans (hb.mono hbl.size)
  have bA0 : w1.heap[w.heap.size]? = some (.cells #[.slice s_0_0.p s_0_0.l.length s_0_0.c, .slice s_1.p s_1.l.length s_1.c] 27 (0, 0)) := (hb.block _ (by simp)).trans (nw_k _ rfl)
  clear hb
  rcases hz0 with rfl | ⟨g0, q0⟩
  · go_wp2
    go_ret
    exact ⟨rfl, bel0⟩
  have n0 : ¬ (x0 < 0) := by omega
  have Q0 := Hid.intro q0
  have l0 : x0 ≤ 1048576 := by omega
  clear q0
  have c0 : w1.cell? ⟨w.heap.size, 0, none⟩ = some (.slice s_0_0.p s_0_0.l.length s_0_0.c) := heap_cell (bA0) 0
  have c1 : w1.cell? ⟨w.heap.size, 1, none⟩ = some (.slice s_1.p s_1.l.length s_1.c) := heap_cell (bA0) 1
  have HCS : Hid (∀ (left : Int) (w : World), yAtmState.rd w (s_0_0, s_1) → 0 ≤ left → left ≤ 1048576 → Calls Tryz.prog 5 #[.agg #[.slice s_0_0.p s_0_0.l.length s_0_0.c, .slice s_1.p s_1.l.length s_1.c], .int .i64 left] w fun e w' => (∃ z : Int, e = .returned (.int .i64 z) ∧ (z = -1 ∨ (0 ≤ z ∧ z = left - (yAtmState.size (s_0_0, s_1) : Int)))) ∧ Below w.heap.size w w') := Hid.intro (yAtmState_sz (s_0_0, s_1))
  go_wp2_with fail
  refine (HCS.out x0 _ (yAtmState_law.rd_blw HR.out.2.1 bel0) g0 (by omega)).mono ?_
  rintro e w2 ⟨⟨x1, rfl, hz1⟩, hb⟩
  have bel1 : Below w.heap.size w w2 := bel0.trans (hb.mono bel0.size)
  have bA1 : w2.heap[w.heap.size]? = some (.cells #[.slice s_0_0.p s_0_0.l.length s_0_0.c, .slice s_1.p s_1.l.length s_1.c] 27 (0, 0)) := (hb.block _ (heap_lt bA0)).trans bA0
  clear bel0 bA0 c0 c1
  clear hb
  rcases hz1 with rfl | ⟨g1, q1⟩
  · go_wp2
    go_ret
    exact ⟨rfl, bel1⟩
  have n1 : ¬ (x1 < 0) := by omega
  have Q1 := Hid.intro q1
  have l1 : x1 ≤ 1048576 := by omega
  clear q1
  have c0 : w2.cell? ⟨w.heap.size, 0, none⟩ = some (.slice s_0_0.p s_0_0.l.length s_0_0.c) := heap_cell (bA1) 0
  have c1 : w2.cell? ⟨w.heap.size, 1, none⟩ = some (.slice s_1.p s_1.l.length s_1.c) := heap_cell (bA1) 1
  go_wp2_with fail
  refine (yReqReqS_sz q x1 _ (yReqReqS_law.rd_blw HR.out.2.2 bel1) g1 (by omega)).mono ?_
  rintro e w3 ⟨⟨x2, rfl, hz2⟩, hb⟩
  have bel2 : Below w.heap.size w w3 := bel1.trans (hb.mono bel1.size)
  have bA2 : w3.heap[w.heap.size]? = some (.cells #[.slice s_0_0.p s_0_0.l.length s_0_0.c, .slice s_1.p s_1.l.length s_1.c] 27 (0, 0)) := (hb.block _ (heap_lt bA1)).trans bA1
  clear bel1 bA1 c0 c1
  clear hb
  rcases hz2 with rfl | ⟨g2, q2⟩
  · go_wp2
    go_ret
    exact ⟨rfl, bel2⟩
  have n2 : ¬ (x2 < 0) := by omega
  have Q2 := Hid.intro q2
  have l2 : x2 ≤ 1048576 := by omega
  clear q2
  have c0 : w3.cell? ⟨w.heap.size, 0, none⟩ = some (.slice s_0_0.p s_0_0.l.length s_0_0.c) := heap_cell (bA2) 0
  have c1 : w3.cell? ⟨w.heap.size, 1, none⟩ = some (.slice s_1.p s_1.l.length s_1.c) := heap_cell (bA2) 1
  have HL : Hid (yMapRangeS.size a ≤ 1048576 ∧ yAtmState.size (s_0_0, s_1) ≤ 1048576 ∧ yReqReqS.size q ≤ 1048576) := Hid.intro (by have h0 := Q0.out; have h1 := Q1.out; have h2 := Q2.out; omega)
  clear Q0 Q1 Q2 c0 c1
  obtain ⟨A5, hA5⟩ : ∃ A, A = w.heap.size := ⟨_, rfl⟩
  rw [← hA5] at bA2 ⊢
  clear hA5
  have H5 := Hid.intro bA2
  have hl5 := heap_lt bA2
  have HBW3 := Hid.intro bel2
  clear bA2 bel2 hbl
  obtain ⟨z0, z1, hzz⟩ : ∃ z0 z1, runPl (yMapRangeS.pl a) (yAtmState.pl (s_0_0, s_1)) who (yReqReqS.pl q) = (z0, z1) := ⟨_, _, rfl⟩
  have HZZ := Hid.intro hzz
  clear hzz
  obtain ⟨KM, hKM⟩ : ∃ K : World → Value → Prop, K = kOw yMapRangeS (yMapRangeS.pl a) := ⟨_, rfl⟩
  obtain ⟨KS, hKS⟩ : ∃ K : World → Value → Prop, K = kOw yAtmState (yAtmState.pl (s_0_0, s_1)) := ⟨_, rfl⟩
  obtain ⟨KQ, hKQ⟩ : ∃ K : World → Value → Prop, K = kOw yReqReqS (yReqReqS.pl q) := ⟨_, rfl⟩
  have hMg : ∀ w w' v, Gr w w' → KM w v → KM w' v := by rw [hKM]; exact kOw_gr yMapRangeS_law.blk
  have hMt : ∀ w w' v, KT 34 w w' → KM w v → KM w' v := by rw [hKM]; exact kOw_kt yMapRangeS_law (by decide)
  have HKM := Hid.intro hKM
  have hSg : ∀ w w' v, Gr w w' → KS w v → KS w' v := by rw [hKS]; exact kOw_gr yAtmState_law.blk
  have hSt : ∀ w w' v, KT 34 w w' → KS w v → KS w' v := by rw [hKS]; exact kOw_kt yAtmState_law (by decide)
  have HKS := Hid.intro hKS
  have hQg : ∀ w w' v, Gr w w' → KQ w v → KQ w' v := by rw [hKQ]; exact kOw_gr yReqReqS_law.blk
  have hQt : ∀ w w' v, KT 34 w w' → KQ w v → KQ w' v := by rw [hKQ]; exact kOw_kt yReqReqS_law (by decide)
  have HKQ := Hid.intro hKQ
  have HTM : Hid (∀ W, Below w.heap.size w W → Calls Tryz.prog 8 #[.slice a.p a.l.length a.c] W fun e w' => (∃ v, e = .returned v ∧ KM w' v) ∧ Below W.heap.size W w') := by
    rw [hKM]
    exact Hid.intro (fun W hW => yMapRangeS_to.ow a W (yMapRangeS_law.rd_blw HR.out.1 hW) HL.out.1)
  have HTS : Hid (∀ W, Below w.heap.size w W → Calls Tryz.prog 9 #[.agg #[.slice s_0_0.p s_0_0.l.length s_0_0.c, .slice s_1.p s_1.l.length s_1.c]] W fun e w' => (∃ v, e = .returned v ∧ KS w' v) ∧ Below W.heap.size W w') := by
    rw [hKS]
    exact Hid.intro (fun W hW => yAtmState_to.ow (s_0_0, s_1) W (yAtmState_law.rd_blw HR.out.2.1 hW) HL.out.2.1)
  have HTQ : Hid (∀ W, Below w.heap.size w W → Calls Tryz.prog 10 #[.slice q.p q.l.length q.c] W fun e w' => (∃ v, e = .returned v ∧ KQ w' v) ∧ Below W.heap.size W w') := by
    rw [hKQ]
    exact Hid.intro (fun W hW => yReqReqS_to.ow q W (yReqReqS_law.rd_blw HR.out.2.2 hW) HL.out.2.2)
  clear hKM hKS hKQ
  obtain ⟨K5, hK5⟩ : ∃ K5 : World → Value → Prop, K5 = Ans2 yAtmState yRspRspS z0 z1 w3.heap.size := ⟨_, rfl⟩
  have h5g : ∀ w w' v, Gr w w' → K5 w v → K5 w' v := by rw [hK5]; exact Ans2.gr yAtmState_law.blk yRspRspS_law.blk
  have h5ta : ∀ w w' v, KT 34 w w' → K5 w v → K5 w' v := by rw [hK5]; exact Ans2.kt yAtmState_law yRspRspS_law (by decide) (by decide)
  have h5t : ∀ W v, K5 W v → ∃ va vb, v = .tuple #[va, vb] := by rw [hK5]; rintro W v ⟨x, y, e, _⟩; exact ⟨_, _, e⟩
  have h5s : ∀ W v, K5 W v → ∃ p0 n0 k0 p1 n1 k1 v2, v = .tuple #[.agg #[.slice p0 n0 k0, .slice p1 n1 k1], v2] := by rw [hK5]; rintro W v ⟨x, y, e, _⟩; exact ⟨_, _, _, _, _, _, _, e⟩
  have HTM3 : Hid (∀ W, Below w3.heap.size w3 W → Calls Tryz.prog 8 #[.slice a.p a.l.length a.c] W fun e w' => (∃ v, e = .returned v ∧ KM w' v) ∧ Below W.heap.size W w') := Hid.intro (fun W hW => HTM.out W (HBW3.out.trans (hW.mono HBW3.out.size)))
  have HTS3 : Hid (∀ W, Below w3.heap.size w3 W → Calls Tryz.prog 9 #[.agg #[.slice s_0_0.p s_0_0.l.length s_0_0.c, .slice s_1.p s_1.l.length s_1.c]] W fun e w' => (∃ v, e = .returned v ∧ KS w' v) ∧ Below W.heap.size W w') := Hid.intro (fun W hW => HTS.out W (HBW3.out.trans (hW.mono HBW3.out.size)))
  have HTQ3 : Hid (∀ W, Below w3.heap.size w3 W → Calls Tryz.prog 10 #[.slice q.p q.l.length q.c] W fun e w' => (∃ v, e = .returned v ∧ KQ w' v) ∧ Below W.heap.size W w') := Hid.intro (fun W hW => HTQ.out W (HBW3.out.trans (hW.mono HBW3.out.size)))
  have HDO3 : Hid (∀ vM vS vQ W, Below w3.heap.size w3 W → KM W vM → KS W vS → KQ W vQ → Calls Tryz.prog 7 #[vM, vS, .int .i64 who, vQ] W fun e w' => (∃ v, e = .returned v ∧ K5 w' v) ∧ Below W.heap.size W w') := by
    refine Hid.intro (fun vM vS vQ W hW h1 h2 h3 => ?_)
    rw [HKM.out] at h1
    rw [HKS.out] at h2
    rw [HKQ.out] at h3
    rw [hK5]
    exact run_do spec_AtmRun HZZ.out _ vM vS vQ W hW.size h1 h2 h3
  have HK5 := Hid.intro hK5
  clear hK5
  go_wp2_with fail
  refine wp_region_fl (by kernel_rfl) (fl_xra (.slice a.p a.l.length a.c) (.agg #[.slice s_0_0.p s_0_0.l.length s_0_0.c, .slice s_1.p s_1.l.length s_1.c]) (.int .i64 who) (.slice q.p q.l.length q.c) A5 KM KS KQ w3.heap.size K5) (fun _ => Below w3.heap.size w3) [38, 39, 40, 41, 42, 43, 44, 45, 37, 46, 47, 10, 11] (by kernel_rfl) (by kernel_rfl) (by kernel_rfl) ?c0 ?looks ?done
  case looks =>
    intro hcl i o ho
    rcases i with _ | _ | _ | _ | _ | _ | _ | _ | _ | _ | _ | _ | _ | _ | i
    · simp at ho; subst ho
      refine fo_det (st_xra (.slice a.p a.l.length a.c) (.agg #[.slice s_0_0.p s_0_0.l.length s_0_0.c, .slice s_1.p s_1.l.length s_1.c]) (.int .i64 who) (.slice q.p q.l.length q.c) A5 KM KS KQ w3.heap.size K5 h5g hMg hMt hSg hSt hQg hQt) hcl rfl rfl rfl rfl (by kernel_rfl) (fun _ _ h => h) (fun done ρ W hat => ?_)
      have e0 : ρ (.tmp 0) = (.slice a.p a.l.length a.c) := hat.out 0 (by kernel_rfl)
      have hC := hat.cls
      have hc := hat.con
      simp only [execOp, e0]
      go_simp
    · simp at ho; subst ho
      refine fo_grow (st_xra (.slice a.p a.l.length a.c) (.agg #[.slice s_0_0.p s_0_0.l.length s_0_0.c, .slice s_1.p s_1.l.length s_1.c]) (.int .i64 who) (.slice q.p q.l.length q.c) A5 KM KS KQ w3.heap.size K5 h5g hMg hMt hSg hSt hQg hQt) hcl rfl rfl (fun done ρ W hat => ?_)
      have e38 : ρ (.tmp 38) = .slice a.p a.l.length a.c := fIs_at (d := 38) (v := .slice a.p a.l.length a.c) (hat.fact 0 (by kernel_rfl))
      have hC := hat.cls
      have hf := hat.fn
      refine up_call 8 #[.slice a.p a.l.length a.c] (by simp only [execOp]; go_simp) ?_
      refine (HTM3.out W hC).mono ?_
      rintro e W1 ⟨⟨v, rfl, hKv⟩, hb⟩
      exact ⟨v, rfl, hC.trans (hb.mono hC.size), hb, fK_mk (by rw [updV_same]; exact hKv), free_spec (by kernel_rfl) hat.lt⟩
    · simp at ho; subst ho
      refine fo_det (st_xra (.slice a.p a.l.length a.c) (.agg #[.slice s_0_0.p s_0_0.l.length s_0_0.c, .slice s_1.p s_1.l.length s_1.c]) (.int .i64 who) (.slice q.p q.l.length q.c) A5 KM KS KQ w3.heap.size K5 h5g hMg hMt hSg hSt hQg hQt) hcl rfl rfl rfl rfl (by kernel_rfl) (fun _ _ h => h) (fun done ρ W hat => ?_)
      have e5 : ρ (.tmp 5) = .pointer (some ⟨A5, 0, none⟩) := hat.out 5 (by kernel_rfl)
      have hC := hat.cls
      have hbx := (hC.block _ hl5).trans H5.out
      have c0 := (heap_cell hbx 0).trans rfl
      have c1 := (heap_cell hbx 1).trans rfl
      have hc := hat.con
      simp only [execOp, e5]
      go_simp
    · simp at ho; subst ho
      refine fo_grow (st_xra (.slice a.p a.l.length a.c) (.agg #[.slice s_0_0.p s_0_0.l.length s_0_0.c, .slice s_1.p s_1.l.length s_1.c]) (.int .i64 who) (.slice q.p q.l.length q.c) A5 KM KS KQ w3.heap.size K5 h5g hMg hMt hSg hSt hQg hQt) hcl rfl rfl (fun done ρ W hat => ?_)
      have e40 : ρ (.tmp 40) = .agg #[.slice s_0_0.p s_0_0.l.length s_0_0.c, .slice s_1.p s_1.l.length s_1.c] := fIs_at (d := 40) (v := .agg #[.slice s_0_0.p s_0_0.l.length s_0_0.c, .slice s_1.p s_1.l.length s_1.c]) (hat.fact 2 (by kernel_rfl))
      have hC := hat.cls
      have hf := hat.fn
      refine up_call 9 #[.agg #[.slice s_0_0.p s_0_0.l.length s_0_0.c, .slice s_1.p s_1.l.length s_1.c]] (by simp only [execOp]; go_simp) ?_
      refine (HTS3.out W hC).mono ?_
      rintro e W1 ⟨⟨v, rfl, hKv⟩, hb⟩
      exact ⟨v, rfl, hC.trans (hb.mono hC.size), hb, fK_mk (by rw [updV_same]; exact hKv), free_spec (by kernel_rfl) hat.lt⟩
    · simp at ho; subst ho
      refine fo_det (st_xra (.slice a.p a.l.length a.c) (.agg #[.slice s_0_0.p s_0_0.l.length s_0_0.c, .slice s_1.p s_1.l.length s_1.c]) (.int .i64 who) (.slice q.p q.l.length q.c) A5 KM KS KQ w3.heap.size K5 h5g hMg hMt hSg hSt hQg hQt) hcl rfl rfl rfl rfl (by kernel_rfl) (fun _ _ h => h) (fun done ρ W hat => ?_)
      have e2 : ρ (.tmp 2) = (.int .i64 who) := hat.out 2 (by kernel_rfl)
      have hC := hat.cls
      have hc := hat.con
      simp only [execOp, e2]
      go_simp
    · simp at ho; subst ho
      refine fo_det (st_xra (.slice a.p a.l.length a.c) (.agg #[.slice s_0_0.p s_0_0.l.length s_0_0.c, .slice s_1.p s_1.l.length s_1.c]) (.int .i64 who) (.slice q.p q.l.length q.c) A5 KM KS KQ w3.heap.size K5 h5g hMg hMt hSg hSt hQg hQt) hcl rfl rfl rfl rfl (by kernel_rfl) (fun _ _ h => h) (fun done ρ W hat => ?_)
      have e3 : ρ (.tmp 3) = (.slice q.p q.l.length q.c) := hat.out 3 (by kernel_rfl)
      have hC := hat.cls
      have hc := hat.con
      simp only [execOp, e3]
      go_simp
    · simp at ho; subst ho
      refine fo_grow (st_xra (.slice a.p a.l.length a.c) (.agg #[.slice s_0_0.p s_0_0.l.length s_0_0.c, .slice s_1.p s_1.l.length s_1.c]) (.int .i64 who) (.slice q.p q.l.length q.c) A5 KM KS KQ w3.heap.size K5 h5g hMg hMt hSg hSt hQg hQt) hcl rfl rfl (fun done ρ W hat => ?_)
      have e43 : ρ (.tmp 43) = .slice q.p q.l.length q.c := fIs_at (d := 43) (v := .slice q.p q.l.length q.c) (hat.fact 5 (by kernel_rfl))
      have hC := hat.cls
      have hf := hat.fn
      refine up_call 10 #[.slice q.p q.l.length q.c] (by simp only [execOp]; go_simp) ?_
      refine (HTQ3.out W hC).mono ?_
      rintro e W1 ⟨⟨v, rfl, hKv⟩, hb⟩
      exact ⟨v, rfl, hC.trans (hb.mono hC.size), hb, fK_mk (by rw [updV_same]; exact hKv), free_spec (by kernel_rfl) hat.lt⟩
    · simp at ho; subst ho
      refine fo_grow (st_xra (.slice a.p a.l.length a.c) (.agg #[.slice s_0_0.p s_0_0.l.length s_0_0.c, .slice s_1.p s_1.l.length s_1.c]) (.int .i64 who) (.slice q.p q.l.length q.c) A5 KM KS KQ w3.heap.size K5 h5g hMg hMt hSg hSt hQg hQt) hcl rfl rfl (fun done ρ W hat => ?_)
      have e42 : ρ (.tmp 42) = (.int .i64 who) := fIs_at (d := 42) (v := (.int .i64 who)) (hat.fact 4 (by kernel_rfl))
      have hC := hat.cls
      have hf := hat.fn
      have qM : KM W (ρ (.tmp 39)) := fK_at (d := 39) (K := KM) (hat.fact 1 (by kernel_rfl))
      obtain ⟨vM, eM⟩ : ∃ v, ρ (.tmp 39) = v := ⟨_, rfl⟩
      rw [eM] at qM
      have qS : KS W (ρ (.tmp 41)) := fK_at (d := 41) (K := KS) (hat.fact 3 (by kernel_rfl))
      obtain ⟨vS, eS⟩ : ∃ v, ρ (.tmp 41) = v := ⟨_, rfl⟩
      rw [eS] at qS
      have qQ : KQ W (ρ (.tmp 44)) := fK_at (d := 44) (K := KQ) (hat.fact 6 (by kernel_rfl))
      obtain ⟨vQ, eQ⟩ : ∃ v, ρ (.tmp 44) = v := ⟨_, rfl⟩
      rw [eQ] at qQ
      refine up_call 7 #[vM, vS, .int .i64 who, vQ] (by simp only [execOp]; go_simp) ?_
      refine (HDO3.out vM vS vQ W hC qM qS qQ).mono ?_
      rintro e W1 ⟨⟨v, rfl, hKv⟩, hb⟩
      exact ⟨v, rfl, hC.trans (hb.mono hC.size), hb, fK_mk (by rw [updV_same]; exact hKv), free_spec (by kernel_rfl) hat.lt⟩
    · simp at ho; subst ho
      refine fo_grow (st_xra (.slice a.p a.l.length a.c) (.agg #[.slice s_0_0.p s_0_0.l.length s_0_0.c, .slice s_1.p s_1.l.length s_1.c]) (.int .i64 who) (.slice q.p q.l.length q.c) A5 KM KS KQ w3.heap.size K5 h5g hMg hMt hSg hSt hQg hQt) hcl rfl rfl (fun done ρ W hat => ?_)
      have hC := hat.cls
      have hK : K5 W (ρ (.tmp 45)) := (fK_at (d := 45) (K := K5) (hat.fact 7 (by kernel_rfl)))
      refine up_val (ρ (.tmp 45)) W (by simp only [execOp]; go_simp) ⟨hC, Gr.refl _, fK_mk (by rw [updV_same]; exact hK), free_spec (by kernel_rfl) hat.lt⟩
    · simp at ho; subst ho
      refine fo_grow (st_xra (.slice a.p a.l.length a.c) (.agg #[.slice s_0_0.p s_0_0.l.length s_0_0.c, .slice s_1.p s_1.l.length s_1.c]) (.int .i64 who) (.slice q.p q.l.length q.c) A5 KM KS KQ w3.heap.size K5 h5g hMg hMt hSg hSt hQg hQt) hcl rfl rfl (fun done ρ W hat => ?_)
      have hC := hat.cls
      have hK : K5 W (ρ (.tmp 37)) := (fK_at (d := 37) (K := K5) (hat.fact 8 (by kernel_rfl)))
      obtain ⟨va, vb, em⟩ := h5t _ _ hK
      refine up_val va W (by simp only [execOp]; go_simp) ⟨hC, Gr.refl _, ⟨vb, ?_⟩, free_spec (by kernel_rfl) hat.lt⟩
      exact em
    · simp at ho; subst ho
      refine fo_grow (st_xra (.slice a.p a.l.length a.c) (.agg #[.slice s_0_0.p s_0_0.l.length s_0_0.c, .slice s_1.p s_1.l.length s_1.c]) (.int .i64 who) (.slice q.p q.l.length q.c) A5 KM KS KQ w3.heap.size K5 h5g hMg hMt hSg hSt hQg hQt) hcl rfl rfl (fun done ρ W hat => ?_)
      have hC := hat.cls
      have hK : K5 W (ρ (.tmp 37)) := (fK_at (d := 37) (K := K5) (hat.fact 8 (by kernel_rfl)))
      obtain ⟨va, vb, em⟩ := h5t _ _ hK
      refine up_val vb W (by simp only [execOp]; go_simp) ⟨hC, Gr.refl _, ⟨va, ?_⟩, free_spec (by kernel_rfl) hat.lt⟩
      exact em
    · simp at ho; subst ho
      refine fo_grow (st_xra (.slice a.p a.l.length a.c) (.agg #[.slice s_0_0.p s_0_0.l.length s_0_0.c, .slice s_1.p s_1.l.length s_1.c]) (.int .i64 who) (.slice q.p q.l.length q.c) A5 KM KS KQ w3.heap.size K5 h5g hMg hMt hSg hSt hQg hQt) hcl rfl rfl (fun done ρ W hat => ?_)
      have hC := hat.cls
      refine up_val (.pointer (some ⟨W.heap.size, 0, none⟩)) (W.alloc (.cells #[.slice none 0 0, .slice none 0 0] 34)) (by simp only [execOp]; go_simp) ⟨hC.trans ((below_nw _ _).mono hC.size), below_nw _ _, ⟨W.heap.size, _, _, ?_, hC.size, nw_at _ rfl⟩, free_spec (by kernel_rfl) hat.lt⟩
      exact rfl
    · simp at ho; subst ho
      refine fo_rel (S := KT 34) (E := [11, 12]) (kta_xra (.slice a.p a.l.length a.c) (.agg #[.slice s_0_0.p s_0_0.l.length s_0_0.c, .slice s_1.p s_1.l.length s_1.c]) (.int .i64 who) (.slice q.p q.l.length q.c) A5 KM KS KQ w3.heap.size K5 h5ta hMg hMt hSg hSt hQg hQt) hcl rfl rfl (fun done ρ W hat => ?_)
      have hC := hat.cls
      have hK : K5 W (ρ (.tmp 37)) := (fK_at (d := 37) (K := K5) (hat.fact 8 (by kernel_rfl)))
      obtain ⟨bb, ex⟩ := hat.fact 9 (by kernel_rfl)
      obtain ⟨b, o0, o1, eb, hMb, hbx⟩ := hat.fact 11 (by kernel_rfl)
      have ex : ρ (.tmp 37) = .tuple #[ρ (.tmp 46), bb] := ex
      have eb : ρ (.tmp 10) = .pointer (some ⟨b, 0, none⟩) := eb
      obtain ⟨p0, n0, k0, p1, n1, k1, v2, ev⟩ := h5s _ _ hK
      rw [ev] at ex
      simp only [Value.tuple.injEq, List.toArray_inj, Array.mk.injEq, List.cons.injEq] at ex
      have ex : ρ (.tmp 46) = .agg #[.slice p0 n0 k0, .slice p1 n1 k1] := ex.1.symm
      have hR1 := heap_set hbx 0 (.slice p0 n0 k0)
      refine up_store2 rfl eb ex hbx ⟨(hC.setCell (p := ⟨b, 0, none⟩) hMb _).setCell (p := ⟨b, 1, none⟩) hMb _, (KT.set hbx _).trans (KT.set hR1 _), ⟨b, _, _, eb, hMb, ex, (heap_set hR1 1 _).trans rfl⟩, fun j hj hcj => ?_⟩
      rcases aska_xra j (hat.lt j hj) hcj with rfl | rfl
      · exact ⟨b, _, _, eb, hMb, (heap_set hR1 1 _).trans rfl⟩
      · rw [hat.new] at hj; cases hj
    · simp at ho; subst ho
      refine fo_grow (st_xra (.slice a.p a.l.length a.c) (.agg #[.slice s_0_0.p s_0_0.l.length s_0_0.c, .slice s_1.p s_1.l.length s_1.c]) (.int .i64 who) (.slice q.p q.l.length q.c) A5 KM KS KQ w3.heap.size K5 h5g hMg hMt hSg hSt hQg hQt) hcl rfl rfl (fun done ρ W hat => ?_)
      have hC := hat.cls
      refine up_val (ρ (.tmp 47)) W (by simp only [execOp]; go_simp) ⟨hC, Gr.refl _, ?_, free_spec (by kernel_rfl) hat.lt⟩
      exact rfl
    · simp at ho
  case c0 => exact (Below.refl _ _).drew
  case done =>
    intro f w4 hC hf hout
    have hK : K5 w4 (f 37) := fK_at (d := 37) (K := K5) (hf 8 (by decide))
    obtain ⟨vb, ex0⟩ : ∃ b, f 37 = .tuple #[f 46, b] := hf 9 (by decide)
    obtain ⟨va, ex1⟩ : ∃ b, f 37 = .tuple #[b, f 47] := hf 10 (by decide)
    have ev1 : f 11 = f 47 := hf 13 (by decide)
    obtain ⟨P, u0, u1, eb0, hM0, ev0, H0⟩ : ∃ b v0 v1, f 10 = .pointer (some ⟨b, 0, none⟩) ∧ w3.heap.size ≤ b ∧ f 46 = .agg #[v0, v1] ∧ w4.heap[b]? = some (.cells #[v0, v1] 34 (0, 0)) := hf 12 (by decide)
    rw [HK5.out] at hK
    obtain ⟨⟨m0_0_0, m0_1⟩, m1, eK, mp0, mp1, mz, mf⟩ := hK
    have eK' : f 37 = .tuple #[.agg #[.slice m0_0_0.p m0_0_0.l.length m0_0_0.c, .slice m0_1.p m0_1.l.length m0_1.c], .slice m1.p m1.l.length m1.c] := eK
    rw [eK'] at ex0 ex1
    simp only [Value.tuple.injEq, List.toArray_inj, Array.mk.injEq, List.cons.injEq] at ex0 ex1
    rw [← ex0.1] at ev0
    rw [← ex1.2.1] at ev1
    cases ev0
    have HAm := Hid.intro (And.intro mp0 (And.intro mp1 (And.intro mz mf)))
    have HBm := Hid.intro H0
    have lm := heap_lt H0
    have HCm := Hid.intro hC
    have Lm := Hid.intro hM0
    clear hf hout ex0 ex1 eK eK' mp0 mp1 mz mf H0 h5g h5ta h5t h5s HK5 hC hM0
    simp only [fill, eb0, ev1]
    go_simp
    clear eb0 ev1
    have HOLD : Hid (∀ W, Below w4.heap.size w4 W → yAtmState.rd W (m0_0_0, m0_1) ∧ yRspRspS.rd W m1 ∧ W.heap[P]? = some (.cells #[.slice m0_0_0.p m0_0_0.l.length m0_0_0.c, .slice m0_1.p m0_1.l.length m0_1.c] 34 (0, 0)) ∧ W.heap[A5]? = some (.cells #[.slice s_0_0.p s_0_0.l.length s_0_0.c, .slice s_1.p s_1.l.length s_1.c] 27 (0, 0)) ∧ Below w.heap.size w W) := Hid.intro (fun W hW =>
      ⟨yAtmState_law.rd_blw (yAtmState_law.ow_rd HAm.out.2.2.2.ow.1) hW, yRspRspS_law.rd_blw (yRspRspS_law.ow_rd HAm.out.2.2.2.ow.2) hW, (hW.block _ lm).trans HBm.out, (hW.block _ (Nat.lt_of_lt_of_le hl5 HCm.out.size)).trans ((HCm.out.block _ hl5).trans H5.out), (HBW3.out.trans (HCm.out.mono HBW3.out.size)).trans (hW.mono (Nat.le_trans HBW3.out.size HCm.out.size))⟩)
    have HPM := Hid.intro (And.intro HAm.out.1 HAm.out.2.1)
    clear H5 hl5 HAm HBm lm HCm Lm HBW3 HTM3 HTS3 HTQ3 HDO3
    have HO0 := HOLD.out w4 (Below.refl _ _)
    go_wp2_with fail
    refine (yMapRangeS_to a w4 (yMapRangeS_law.rd_blw HR.out.1 HO0.2.2.2.2) HL.out.1).mono ?_
    rintro e w5 ⟨x0, he, hp0, hs0, hf0, hb5⟩
    replace he : e = .returned (.slice x0.p x0.l.length x0.c) := he
    subst he
    clear HO0
    have HO5 := HOLD.out w5 hb5
    have c0 : w5.cell? ⟨A5, 0, none⟩ = some (.slice s_0_0.p s_0_0.l.length s_0_0.c) := heap_cell (HO5.2.2.2.1) 0
    have c1 : w5.cell? ⟨A5, 1, none⟩ = some (.slice s_1.p s_1.l.length s_1.c) := heap_cell (HO5.2.2.2.1) 1
    have HCT : Hid (∀ (w : World), yAtmState.rd w (s_0_0, s_1) → yAtmState.size (s_0_0, s_1) ≤ 1048576 → Calls Tryz.prog 9 #[.agg #[.slice s_0_0.p s_0_0.l.length s_0_0.c, .slice s_1.p s_1.l.length s_1.c]] w fun e w' => ∃ a', e = .returned (yAtmState.val a') ∧ yAtmState.pl a' = yAtmState.pl (s_0_0, s_1) ∧ yAtmState.size a' = yAtmState.size (s_0_0, s_1) ∧ Fresh yAtmState w.heap.size w' a' ∧ Below w.heap.size w w') := Hid.intro (yAtmState_to (s_0_0, s_1))
    have hrS := yAtmState_law.rd_blw HR.out.2.1 HO5.2.2.2.2
    have HS5 := Hid.intro (And.intro hp0 (And.intro hs0 hf0))
    have HB5 := Hid.intro hb5
    clear HO5 hp0 hs0 hf0 hb5
    go_wp2_with fail
    refine (HCT.out _ hrS HL.out.2.1).mono ?_
    rintro e w6 ⟨⟨x1_0_0, x1_1⟩, he, hp1, hs1, hf1, hb6⟩
    rw [yAtmState_val] at he
    subst he
    clear HCT hrS c0 c1
    have HO6 := HOLD.out w6 (HB5.out.trans (hb6.mono HB5.out.size))
    have gr6 := (Below.refl w6.heap.size w6).alloc (Nat.le_refl _) (.cells #[.slice x1_0_0.p x1_0_0.l.length x1_0_0.c, .slice x1_1.p x1_1.l.length x1_1.c] 34)
    have hrQ := yReqReqS_law.rd_blw HR.out.2.2 (HO6.2.2.2.2.trans (gr6.mono HO6.2.2.2.2.size))
    have HS6 := Hid.intro (And.intro hp1 (And.intro hs1 hf1))
    have HB6 := Hid.intro (And.intro hb6 gr6)
    clear HO6 hp1 hs1 hf1 hb6 gr6
    go_wp2_with fail
    refine (yReqReqS_to q _ hrQ HL.out.2.2).mono ?_
    rintro e w7 ⟨x3, he, hp3, hs3, hf3, hb7⟩
    replace he : e = .returned (.slice x3.p x3.l.length x3.c) := he
    subst he
    clear hrQ
    have bX1 : w7.heap[w6.heap.size]? = some (.cells #[.slice x1_0_0.p x1_0_0.l.length x1_0_0.c, .slice x1_1.p x1_1.l.length x1_1.c] 34 (0, 0)) := (hb7.block _ (by simp)).trans (nw_k _ rfl)
    have c0 : w7.cell? ⟨w6.heap.size, 0, none⟩ = some (.slice x1_0_0.p x1_0_0.l.length x1_0_0.c) := heap_cell (bX1) 0
    have c1 : w7.cell? ⟨w6.heap.size, 1, none⟩ = some (.slice x1_1.p x1_1.l.length x1_1.c) := heap_cell (bX1) 1
    have hb67 := HB6.out.2.trans (hb7.mono (by simp))
    have hrun := run_kinds HI.out x0 (x1_0_0, x1_1) who x3 w7 (yMapRangeS_law.rd_blw (yMapRangeS_law.rd_blw (yMapRangeS_law.ow_rd HS5.out.2.2.ow) HB6.out.1) hb67) (yAtmState_law.rd_blw (yAtmState_law.ow_rd HS6.out.2.2.ow) hb67) (yReqReqS_law.ow_rd hf3.ow)
    rw [HS5.out.1, HS6.out.1, hp3, HZZ.out] at hrun
    have hrun' : Calls Tryz.prog 11 #[.slice x0.p x0.l.length x0.c, .agg #[.slice x1_0_0.p x1_0_0.l.length x1_0_0.c, .slice x1_1.p x1_1.l.length x1_1.c], .int .i64 who, .slice x3.p x3.l.length x3.c] w7 fun e w' => (∃ v, e = .returned v ∧ Ans2 yAtmState yRspRspS z0 z1 w7.heap.size w' v) ∧ Below w7.heap.size w7 w' := hrun
    have HRUN := Hid.intro hrun'
    have HS7 := Hid.intro (And.intro hp3 (And.intro hs3 hf3))
    have HB7 := Hid.intro hb7
    have HX1 := Hid.intro bX1
    clear hrun hrun' hb67 hp3 hs3 hf3 hb7 bX1
    go_wp2_with fail
    refine HRUN.out.mono ?_
    rintro e w8 ⟨⟨v, rfl, ⟨⟨g0_0_0, g0_1⟩, g1, hv, hgp0, hgp1, hgz, hgf⟩⟩, hb8⟩
    replace hv : v = .tuple #[.agg #[.slice g0_0_0.p g0_0_0.l.length g0_0_0.c, .slice g0_1.p g0_1.l.length g0_1.c], .slice g1.p g1.l.length g1.c] := hv
    subst hv
    clear HRUN c0 c1
    have gr8 := (Below.refl w8.heap.size w8).alloc (Nat.le_refl _) (.cells #[.slice g0_0_0.p g0_0_0.l.length g0_0_0.c, .slice g0_1.p g0_1.l.length g0_1.c] 34)
    have b68 : Below w6.heap.size w6 w8 := HB6.out.2.trans ((HB7.out.trans (hb8.mono HB7.out.size)).mono (by simp))
    have b58 : Below w5.heap.size w5 w8 := HB6.out.1.trans (b68.mono HB6.out.1.size)
    have b48 : Below w4.heap.size w4 w8 := HB5.out.trans (b58.mono HB5.out.size)
    obtain ⟨W8, hW8⟩ : ∃ W, W = w8.alloc (.cells #[.slice g0_0_0.p g0_0_0.l.length g0_0_0.c, .slice g0_1.p g0_1.l.length g0_1.c] 34) := ⟨_, rfl⟩
    rw [← hW8] at gr8
    have sz6 : w6.heap.size + 1 ≤ w7.heap.size := by have := HB7.out.size; simpa using this
    have HXW8 : Hid (Fresh (gPair yMapRangeS (gPair (gBox 34 yAtmState) (gPair yReqReqS (gPair (gBox 34 yAtmState) yRspRspS)))) w4.heap.size W8 (x0, ((w6.heap.size, (x1_0_0, x1_1)), (x3, ((w8.heap.size, (g0_0_0, g0_1)), g1))))) := by
      have f4 : Fresh (gPair (gBox 34 yAtmState) yRspRspS) w7.heap.size W8 ((w8.heap.size, (g0_0_0, g0_1)), g1) := (hgf.blwB (kbS.pair yRspRspS_law.blk) gr8).box2 (T := 34) (by rw [hW8]; exact nw_k _ rfl) hb8.size (fun x hx => (kbS.pair yRspRspS_law.blk).ow_lt hgf.ow x hx)
      have f3 : Fresh yReqReqS (w6.heap.size + 1) W8 x3 := ((HS7.out.2.2.mono (by simp)).below yReqReqS_law hb8).below yReqReqS_law gr8
      have f2 : Fresh (gBox 34 yAtmState) w5.heap.size W8 (w6.heap.size, (x1_0_0, x1_1)) := Fresh.box ((gr8.block _ (Nat.lt_of_lt_of_le (Nat.lt_succ_self _) (Nat.le_trans sz6 hb8.size))).trans ((hb8.block _ (by omega)).trans HX1.out)) HB6.out.1.size (((HS6.out.2.2.below yAtmState_law b68)).below yAtmState_law gr8) (Nat.le_refl _) (fun hm => by have := yAtmState_law.ow_lt HS6.out.2.2.ow _ hm; omega)
      have f1 : Fresh yMapRangeS w4.heap.size W8 x0 := (HS5.out.2.2.below yMapRangeS_law b58).below yMapRangeS_law gr8
      refine Hid.intro (f1.join HB5.out.size (fun x hx => yMapRangeS_law.ow_lt HS5.out.2.2.ow x hx) (f2.join (by have := HB6.out.1.size; omega) (fun x hx => ?_) (f3.join (by omega) (fun x hx => yReqReqS_law.ow_lt HS7.out.2.2.ow x hx) f4)))
      rcases List.mem_cons.1 hx with rfl | hx
      · exact Nat.lt_succ_self _
      · exact Nat.lt_succ_of_lt (yAtmState_law.ow_lt HS6.out.2.2.ow x hx)
    have HNW8 : Hid (Below w4.heap.size w4 W8) := Hid.intro (b48.trans (gr8.mono b48.size))
    have HV : Hid (yMapRangeS.vcnt x0 ≤ 7 * 1048576 ∧ yAtmState.vcnt (x1_0_0, x1_1) ≤ 7 * 1048576 ∧ yReqReqS.vcnt x3 ≤ 7 * 1048576 ∧ yAtmState.vcnt (g0_0_0, g0_1) + yRspRspS.vcnt g1 ≤ 7 * 1000000000) := Hid.intro (by
      have h0 := yMapRangeS_law.vcnt_le x0
      have h1 := yAtmState_law.vcnt_le (x1_0_0, x1_1)
      have h2 := yReqReqS_law.vcnt_le x3
      have h3 := yAtmState_law.vcnt_le (g0_0_0, g0_1)
      have h4 := yRspRspS_law.vcnt_le g1
      have e0 := HS5.out.2.1
      have e1 := HS6.out.2.1
      have e2 := HS7.out.2.1
      have l := HL.out
      omega)
    have HPL : Hid (yMapRangeS.pl x0 = yMapRangeS.pl a ∧ yAtmState.pl (x1_0_0, x1_1) = yAtmState.pl (s_0_0, s_1) ∧ yReqReqS.pl x3 = yReqReqS.pl q ∧ yAtmState.pl (g0_0_0, g0_1) = z0 ∧ yRspRspS.pl g1 = z1) := Hid.intro ⟨HS5.out.1, HS6.out.1, HS7.out.1, hgp0, hgp1⟩
    have hP8 := (HOLD.out W8 HNW8.out).2.2.1
    have hG8 : W8.heap[w8.heap.size]? = some (.cells #[.slice g0_0_0.p g0_0_0.l.length g0_0_0.c, .slice g0_1.p g0_1.l.length g0_1.c] 34 (0, 0)) := HXW8.out.ow.2.2.2.1.1
    rw [hW8] at hP8 hG8
    have HW8 := Hid.intro hW8
    clear gr8 b68 b58 b48 sz6 hgp0 hgp1 hgz hgf hb8 HS5 HS6 HS7 HB5 HB6 HB7 HX1 hW8
    have d0 : (w8.alloc (.cells #[.slice g0_0_0.p g0_0_0.l.length g0_0_0.c, .slice g0_1.p g0_1.l.length g0_1.c] 34)).cell? ⟨P, 0, none⟩ = some (.slice m0_0_0.p m0_0_0.l.length m0_0_0.c) := heap_cell (hP8) 0
    have d1 : (w8.alloc (.cells #[.slice g0_0_0.p g0_0_0.l.length g0_0_0.c, .slice g0_1.p g0_1.l.length g0_1.c] 34)).cell? ⟨P, 1, none⟩ = some (.slice m0_1.p m0_1.l.length m0_1.c) := heap_cell (hP8) 1
    clear hP8 hG8
    have EQA : Hid (∀ (w : World), yAtmState.rd w (g0_0_0, g0_1) → yAtmState.rd w (m0_0_0, m0_1) → yAtmState.pl (g0_0_0, g0_1) = yAtmState.pl (m0_0_0, m0_1) → Calls Tryz.prog 12 #[.agg #[.slice g0_0_0.p g0_0_0.l.length g0_0_0.c, .slice g0_1.p g0_1.l.length g0_1.c], .agg #[.slice m0_0_0.p m0_0_0.l.length m0_0_0.c, .slice m0_1.p m0_1.l.length m0_1.c]] w fun e w' => e = .returned (.bool true) ∧ Below w.heap.size w w') := Hid.intro (yAtmState_eq (g0_0_0, g0_1) (m0_0_0, m0_1))
    have HBW := Hid.intro (Nat.le_refl w4.heap.size)
    go_wp2_with fail
    rw [← HW8.out]
    refine (EQA.out W8 (yAtmState_law.ow_rd HXW8.out.ow.2.2.2.1.2) (HOLD.out W8 HNW8.out).1 (HPL.out.2.2.2.1.trans HPM.out.1.symm)).mono ?_
    clear d0 d1
    rintro e w9 ⟨rfl, hb⟩
    have HXw9 := Hid.intro (HXW8.out.blwB kb1 hb)
    have HNw9 := Hid.intro (HNW8.out.trans (hb.mono HNW8.out.size))
    clear hb HW8 HXW8 HNW8
    go_wp2_with fail
    refine (yRspRspS_eq g1 m1 w9 (yRspRspS_law.ow_rd HXw9.out.ow.2.2.2.2) (HOLD.out w9 HNw9.out).2.1 (HPL.out.2.2.2.2.trans HPM.out.2.symm)).mono ?_
    rintro e w10 ⟨rfl, hb⟩
    have HXw10 := Hid.intro (HXw9.out.blwB kb1 hb)
    have HNw10 := Hid.intro (HNw9.out.trans (hb.mono HNw9.out.size))
    clear hb HXw9 HNw9
    go_wp2_with fail
    refine (yMapRangeS_to a w10 (yMapRangeS_law.rd_blw HR.out.1 (HOLD.out w10 HNw10.out).2.2.2.2) HL.out.1).mono ?_
    rintro e w11 ⟨y0, he, hp0, hs0, hf0, hb⟩
    replace he : e = .returned (.slice y0.p y0.l.length y0.c) := he
    subst he
    have HXw11 := Hid.intro (HXw10.out.blwB kb1 hb)
    have HNw11 := Hid.intro (HNw10.out.trans (hb.mono HNw10.out.size))
    have HY := Hid.intro (And.intro hp0 hf0.ow)
    clear hb HXw10 HNw10 hp0 hs0 hf0
    go_wp2_with fail
    refine (yMapRangeS_eq x0 y0 w11 (yMapRangeS_law.ow_rd HXw11.out.ow.1) (yMapRangeS_law.ow_rd HY.out.2) (HPL.out.1.trans HY.out.1.symm)).mono ?_
    clear HY
    rintro e w12 ⟨rfl, hb⟩
    have HXw12 := Hid.intro (HXw11.out.blwB kb1 hb)
    have HNw12 := Hid.intro (HNw11.out.trans (hb.mono HNw11.out.size))
    clear hb HXw11 HNw11
    have hbb : w12.heap[w6.heap.size]? = some (.cells #[.slice x1_0_0.p x1_0_0.l.length x1_0_0.c, .slice x1_1.p x1_1.l.length x1_1.c] 34 (0, 0)) := HXw12.out.ow.2.1.1
    have haa := (HOLD.out w12 HNw12.out).2.2.2.1
    have hbw := (HOLD.out w12 HNw12.out).2.2.2.2
    have hlb := heap_lt hbb
    have hla := heap_lt haa
    obtain ⟨X1, hX1⟩ : ∃ X, X = w6.heap.size := ⟨_, rfl⟩
    rw [← hX1] at hbb hlb HXw12 ⊢
    clear hX1
    go_wp2_with fail
    refine wp_region_typed (by kernel_rfl) Gr (fun _ W => Below w12.heap.size w12 W)
      (tab [(77, kIs (.agg #[.slice x1_0_0.p x1_0_0.l.length x1_0_0.c, .slice x1_1.p x1_1.l.length x1_1.c])), (78, kIs (.agg #[.slice s_0_0.p s_0_0.l.length s_0_0.c, .slice s_1.p s_1.l.length s_1.c])), (79, kOw yAtmState (yAtmState.pl (s_0_0, s_1))), (80, kIs (.bool true)), (81, kIs (.bool false))])
      [77, 78, 79, 80, 81] (by kernel_rfl) (by kernel_rfl) ?_ ?_ ?_ ?_
    · refine tabR_stable ?_
      intro x hx
      simp only [List.mem_cons, List.not_mem_nil, or_false] at hx
      rcases hx with rfl | rfl | rfl | rfl | rfl
      all_goals intro w w' v hr hv
      all_goals first | exact hv | exact kOw_gr yAtmState_law.blk _ _ _ hr hv
    · exact (Below.refl _ _).drew
    · refine ops_cons (gd rfl <| tx_pure rfl rfl (fun _ _ h => h) Gr.refl (fun i ρ W hat hW => ?_)) ?_
      · have bW := (hW.block X1 hlb).trans hbb
        have c0 : W.cell? ⟨X1, 0, none⟩ = some (.slice x1_0_0.p x1_0_0.l.length x1_0_0.c) := heap_cell bW 0
        have c1 : W.cell? ⟨X1, 1, none⟩ = some (.slice x1_1.p x1_1.l.length x1_1.c) := heap_cell bW 1
        have e2 := hat.out 13 (by kernel_rfl)
        simp [Act.eval] at e2
        clear bW hbb haa
        simp only [execOp, e2]; go_simp
      refine ops_cons (gd rfl <| tx_pure rfl rfl (fun _ _ h => h) Gr.refl (fun i ρ W hat hW => ?_)) ?_
      · have bW := (hW.block A5 hla).trans haa
        have c0 : W.cell? ⟨A5, 0, none⟩ = some (.slice s_0_0.p s_0_0.l.length s_0_0.c) := heap_cell bW 0
        have c1 : W.cell? ⟨A5, 1, none⟩ = some (.slice s_1.p s_1.l.length s_1.c) := heap_cell bW 1
        have e2 := hat.out 5 (by kernel_rfl)
        simp [Act.eval] at e2
        clear bW hbb haa
        simp only [execOp, e2]; go_simp
      refine ops_cons (gd rfl <| tx_call rfl (fun i ρ W _ hat hW => ?_)) ?_
      · have e1 : ρ (.tmp 78) = _ := hat.dep 78 (by kernel_rfl)
        have hf := hat.fn
        clear hbb haa
        refine ⟨9, #[.agg #[.slice s_0_0.p s_0_0.l.length s_0_0.c, .slice s_1.p s_1.l.length s_1.c]], by simp only [execOp]; go_simp, ?_⟩
        refine (HTS.out W (hbw.trans (hW.mono hbw.size))).mono ?_
        rintro e W' ⟨⟨v, rfl, hv⟩, hb⟩
        exact ⟨v, rfl, hW.trans (hb.mono hW.size), hb, by rw [HKS.out] at hv; exact hv⟩
      refine ops_cons (gd rfl <| tx_call rfl (fun i ρ W _ hat hW => ?_)) ?_
      · have e1 : ρ (.tmp 77) = _ := hat.dep 77 (by kernel_rfl)
        obtain ⟨⟨u_0_0, u_1⟩, e2, u1, u2⟩ : kOw yAtmState (yAtmState.pl (s_0_0, s_1)) W (ρ (.tmp 79)) := hat.dep 79 (by kernel_rfl)
        rw [yAtmState_val] at e2
        have hf := hat.fn
        clear hbb haa
        refine ⟨12, #[.agg #[.slice x1_0_0.p x1_0_0.l.length x1_0_0.c, .slice x1_1.p x1_1.l.length x1_1.c], .agg #[.slice u_0_0.p u_0_0.l.length u_0_0.c, .slice u_1.p u_1.l.length u_1.c]], by simp only [execOp]; go_simp, ?_⟩
        have hcl := yAtmState_eq (x1_0_0, x1_1) (u_0_0, u_1) W (yAtmState_law.rd_blw (yAtmState_law.ow_rd HXw12.out.ow.2.1.2) hW) (yAtmState_law.ow_rd u2) (HPL.out.2.1.trans u1.symm)
        refine Calls.mono (show Calls Tryz.prog 12 #[.agg #[.slice x1_0_0.p x1_0_0.l.length x1_0_0.c, .slice x1_1.p x1_1.l.length x1_1.c], .agg #[.slice u_0_0.p u_0_0.l.length u_0_0.c, .slice u_1.p u_1.l.length u_1.c]] W _ from hcl) ?_
        rintro e W' ⟨rfl, hb⟩
        exact ⟨_, rfl, hW.trans (hb.mono hW.size), hb, rfl⟩
      refine ops_cons (gd rfl <| tx_pure rfl rfl (fun _ _ h => h) Gr.refl (fun i ρ W hat hW => ?_)) ?_
      · have e1 : ρ (.tmp 80) = _ := hat.dep 80 (by kernel_rfl)
        clear hbb haa
        simp only [execOp, e1]; go_simp
      exact ops_nil
    intro f w13 hb hf
    have ee : f 81 = .bool false := hf 81 (by simp)
    have HXw13 := Hid.intro (HXw12.out.blwB kb1 hb)
    have HNw13 := Hid.intro (HNw12.out.trans (hb.mono HNw12.out.size))
    clear hf hb hbb haa hlb hla hbw HXw12 HNw12
    simp only [fill, ee]
    go_simp
    clear ee
    go_wp2_with fail
    refine (yReqReqS_to q w13 (yReqReqS_law.rd_blw HR.out.2.2 (HOLD.out w13 HNw13.out).2.2.2.2) HL.out.2.2).mono ?_
    rintro e w14 ⟨y3, he, hp0, hs0, hf0, hb⟩
    replace he : e = .returned (.slice y3.p y3.l.length y3.c) := he
    subst he
    have HXw14 := Hid.intro (HXw13.out.blwB kb1 hb)
    have HNw14 := Hid.intro (HNw13.out.trans (hb.mono HNw13.out.size))
    have HY := Hid.intro (And.intro hp0 hf0.ow)
    clear hb HXw13 HNw13 hp0 hs0 hf0
    go_wp2_with fail
    refine (yReqReqS_eq x3 y3 w14 (yReqReqS_law.ow_rd HXw14.out.ow.2.2.1) (yReqReqS_law.ow_rd HY.out.2) (HPL.out.2.2.1.trans HY.out.1.symm)).mono ?_
    clear HY
    rintro e w15 ⟨rfl, hb⟩
    have HXw15 := Hid.intro (HXw14.out.blwB kb1 hb)
    have HNw15 := Hid.intro (HNw14.out.trans (hb.mono HNw14.out.size))
    clear hb HXw14 HNw14
    go_wp2_with fail
    refine (yMapRangeS_mark x0 _ w15 HXw15.out.ow.1 HXw15.out.fst.nd (by decide) (by have := HV.out; omega)).mono ?_
    rintro e w16 ⟨rfl, hk, t0, hv0, hc0, hf0, hn0, hw0, hm0⟩
    have HXw16 := Hid.intro (HXw15.out.updL kb2 hk (fun _ h => h) (fresh_mark HXw15.out.fst hw0 hf0) hf0)
    have HNw16 : Hid (Below w4.heap.size w4 w16) := Hid.intro (old_kept HNw15.out hk (fun b hb => HXw15.out.fst.ge b hb) HNw15.out.size)
    clear hk hv0 hc0 hf0 hn0 hw0 hm0 HXw15 HNw15
    have bX : w16.heap[X1]? = some (.cells #[.slice x1_0_0.p x1_0_0.l.length x1_0_0.c, .slice x1_1.p x1_1.l.length x1_1.c] 34 (0, 0)) := HXw16.out.ow.2.1.1
    have c0 : w16.cell? ⟨X1, 0, none⟩ = some (.slice x1_0_0.p x1_0_0.l.length x1_0_0.c) := heap_cell (bX) 0
    have c1 : w16.cell? ⟨X1, 1, none⟩ = some (.slice x1_1.p x1_1.l.length x1_1.c) := heap_cell (bX) 1
    have HCK : Hid (∀ (k : Int) (w : World), yAtmState.ow w (x1_0_0, x1_1) → (yAtmState.foot (x1_0_0, x1_1)).Nodup → 0 ≤ k → k + (yAtmState.vcnt (x1_0_0, x1_1) : Int) ≤ 1000000000000000 → Calls Tryz.prog 17 #[.agg #[.slice x1_0_0.p x1_0_0.l.length x1_0_0.c, .slice x1_1.p x1_1.l.length x1_1.c], .int .i64 k] w fun e w' => e = .returned (.int .i64 (k + (yAtmState.vcnt (x1_0_0, x1_1) : Int))) ∧ Kept (fun b => b ∈ yAtmState.foot (x1_0_0, x1_1)) w w' ∧ ∃ a', yAtmState.val a' = yAtmState.val (x1_0_0, x1_1) ∧ yAtmState.cells a' = yAtmState.cells (x1_0_0, x1_1) ∧ yAtmState.foot a' = yAtmState.foot (x1_0_0, x1_1) ∧ yAtmState.vcnt a' = yAtmState.vcnt (x1_0_0, x1_1) ∧ yAtmState.ow w' a' ∧ yAtmState.vmkd a' k) := Hid.intro (yAtmState_mark (x1_0_0, x1_1))
    clear bX
    go_wp2_with fail
    refine (HCK.out _ w16 HXw16.out.ow.2.1.2 HXw16.out.snd.fst.inb.nd (by omega) (by have := HV.out; omega)).mono ?_
    rintro e w17 ⟨rfl, hk, t1, hv0, hc0, hf0, hn0, hw0, hm0⟩
    have HXw17 := Hid.intro (HXw16.out.updR yMapRangeS_law.blk hk (fun b h => List.mem_append.2 (.inl (List.mem_cons_of_mem _ h))) (HXw16.out.snd.updL kb3 hk (fun b h => List.mem_cons_of_mem _ h) (HXw16.out.snd.fst.updB hk (fun _ h => h) hw0 hf0 hc0) (show X1 :: yAtmState.foot t1 = X1 :: yAtmState.foot (x1_0_0, x1_1) by rw [hf0])) (show (X1 :: yAtmState.foot t1) ++ _ = (X1 :: yAtmState.foot (x1_0_0, x1_1)) ++ _ by rw [hf0]))
    have HNw17 : Hid (Below w4.heap.size w4 w17) := Hid.intro (old_kept HNw16.out hk (fun b hb => HXw16.out.snd.fst.inb.ge b hb) HNw16.out.size)
    clear hk hv0 hc0 hf0 hn0 hw0 hm0 HXw16 HNw16 HCK c0 c1
    go_wp2_with fail
    refine (yReqReqS_mark x3 _ w17 HXw17.out.ow.2.2.1 HXw17.out.snd.snd.fst.nd (by omega) (by have := HV.out; omega)).mono ?_
    rintro e w18 ⟨rfl, hk, t3, hv0, hc0, hf0, hn0, hw0, hm0⟩
    have HXw18 := Hid.intro (HXw17.out.updR yMapRangeS_law.blk hk (fun b h => List.mem_append.2 (.inr (List.mem_append.2 (.inl h)))) (HXw17.out.snd.updR kbS.box hk (fun b h => List.mem_append.2 (.inl h)) (HXw17.out.snd.snd.updL kb4 hk (fun _ h => h) (fresh_mark HXw17.out.snd.snd.fst hw0 hf0) hf0) (show yReqReqS.foot t3 ++ _ = yReqReqS.foot x3 ++ _ by rw [hf0])) (show _ ++ (yReqReqS.foot t3 ++ _) = _ ++ (yReqReqS.foot x3 ++ _) by rw [hf0]))
    have HNw18 : Hid (Below w4.heap.size w4 w18) := Hid.intro (old_kept HNw17.out hk (fun b hb => HXw17.out.snd.snd.fst.ge b hb) HNw17.out.size)
    have HX18 : Hid (Fresh (gPair (gBox 34 yAtmState) yRspRspS) w4.heap.size w18 ((w8.heap.size, (g0_0_0, g0_1)), g1)) := Hid.intro HXw18.out.snd.snd.snd
    clear hk hv0 hc0 hf0 hn0 hw0 hm0 HXw17 HNw17 HXw18
    have hK0 : ¬ (1 + ((yMapRangeS.vcnt x0 : Nat) : Int) + ((yAtmState.vcnt (x1_0_0, x1_1) : Nat) : Int) + ((yReqReqS.vcnt x3 : Nat) : Int) < 0) := by omega
    obtain ⟨G0, hG0⟩ : ∃ G, G = w8.heap.size := ⟨_, rfl⟩
    rw [← hG0] at HX18 ⊢
    clear hG0
    have bG : w18.heap[G0]? = some (.cells #[.slice g0_0_0.p g0_0_0.l.length g0_0_0.c, .slice g0_1.p g0_1.l.length g0_1.c] 34 (0, 0)) := HX18.out.ow.1.1
    have bP := (HOLD.out w18 HNw18.out).2.2.1
    have c0 : w18.cell? ⟨G0, 0, none⟩ = some (.slice g0_0_0.p g0_0_0.l.length g0_0_0.c) := heap_cell (bG) 0
    have c1 : w18.cell? ⟨G0, 1, none⟩ = some (.slice g0_1.p g0_1.l.length g0_1.c) := heap_cell (bG) 1
    have d0 : w18.cell? ⟨P, 0, none⟩ = some (.slice m0_0_0.p m0_0_0.l.length m0_0_0.c) := heap_cell (bP) 0
    have d1 : w18.cell? ⟨P, 1, none⟩ = some (.slice m0_1.p m0_1.l.length m0_1.c) := heap_cell (bP) 1
    clear bG bP
    go_wp2_with fail
    refine (EQA.out w18 (yAtmState_law.ow_rd HX18.out.ow.1.2) (HOLD.out w18 HNw18.out).1 (HPL.out.2.2.2.1.trans HPM.out.1.symm)).mono ?_
    rintro e w19 ⟨rfl, hb⟩
    have HX19 := Hid.intro (HX18.out.blwB kb4 hb)
    have HNw19 := Hid.intro (HNw18.out.trans (hb.mono HNw18.out.size))
    clear hb HX18 HNw18 c0 c1 d0 d1
    go_wp2_with fail
    refine (yRspRspS_eq g1 m1 w19 (yRspRspS_law.ow_rd HX19.out.ow.2) (HOLD.out w19 HNw19.out).2.1 (HPL.out.2.2.2.2.trans HPM.out.2.symm)).mono ?_
    rintro e w20 ⟨rfl, hb⟩
    have HX20 := Hid.intro (HX19.out.blwB kb4 hb)
    have HNw20 := Hid.intro (HNw19.out.trans (hb.mono HNw19.out.size))
    clear hb HX19 HNw19
    clear hK0
    have bG : w20.heap[G0]? = some (.cells #[.slice g0_0_0.p g0_0_0.l.length g0_0_0.c, .slice g0_1.p g0_1.l.length g0_1.c] 34 (0, 0)) := HX20.out.ow.1.1
    have c0 : w20.cell? ⟨G0, 0, none⟩ = some (.slice g0_0_0.p g0_0_0.l.length g0_0_0.c) := heap_cell (bG) 0
    have c1 : w20.cell? ⟨G0, 1, none⟩ = some (.slice g0_1.p g0_1.l.length g0_1.c) := heap_cell (bG) 1
    clear bG
    have HCK : Hid (∀ (k : Int) (w : World), yAtmState.ow w (g0_0_0, g0_1) → (yAtmState.foot (g0_0_0, g0_1)).Nodup → 0 ≤ k → k + (yAtmState.vcnt (g0_0_0, g0_1) : Int) ≤ 1000000000000000 → Calls Tryz.prog 17 #[.agg #[.slice g0_0_0.p g0_0_0.l.length g0_0_0.c, .slice g0_1.p g0_1.l.length g0_1.c], .int .i64 k] w fun e w' => e = .returned (.int .i64 (k + (yAtmState.vcnt (g0_0_0, g0_1) : Int))) ∧ Kept (fun b => b ∈ yAtmState.foot (g0_0_0, g0_1)) w w' ∧ ∃ a', yAtmState.val a' = yAtmState.val (g0_0_0, g0_1) ∧ yAtmState.cells a' = yAtmState.cells (g0_0_0, g0_1) ∧ yAtmState.foot a' = yAtmState.foot (g0_0_0, g0_1) ∧ yAtmState.vcnt a' = yAtmState.vcnt (g0_0_0, g0_1) ∧ yAtmState.ow w' a' ∧ yAtmState.vmkd a' k) := Hid.intro (yAtmState_mark (g0_0_0, g0_1))
    go_wp2_with fail
    refine (HCK.out _ w20 HX20.out.ow.1.2 HX20.out.fst.inb.nd (by decide) (by have := HV.out; omega)).mono ?_
    rintro e w21 ⟨rfl, hk, ⟨k0_0_0, k0_1⟩, hv0, hc0, hf0, hn0, hw0, hm0⟩
    have HX21 := Hid.intro (HX20.out.updL yRspRspS_law.blk hk (fun b h => List.mem_cons_of_mem _ h) (HX20.out.fst.updB hk (fun _ h => h) hw0 hf0 hc0) (show G0 :: yAtmState.foot (k0_0_0, k0_1) = G0 :: yAtmState.foot (g0_0_0, g0_1) by rw [hf0]))
    have HNw21 : Hid (Below w4.heap.size w4 w21) := Hid.intro (old_kept HNw20.out hk (fun b hb => HX20.out.fst.inb.ge b hb) HNw20.out.size)
    have HMK := Hid.intro (And.intro hn0 hm0)
    have HVK := Hid.intro hc0
    clear hk hv0 hc0 hf0 hn0 hw0 hm0 HX20 HNw20 HCK c0 c1
    go_wp2_with fail
    refine (yRspRspS_mark g1 _ w21 HX21.out.ow.2 HX21.out.snd.nd (by omega) (by have := HV.out; omega)).mono ?_
    rintro e w22 ⟨rfl, hk, k1, hv0, hc0, hf0, hn0, hw0, hm0⟩
    have HX22 := Hid.intro (HX21.out.updR kbS.box hk (fun _ h => h) (fresh_mark HX21.out.snd hw0 hf0) hf0)
    have HNw22 : Hid (Below w4.heap.size w4 w22) := Hid.intro (old_kept HNw21.out hk (fun b hb => HX21.out.snd.ge b hb) HNw21.out.size)
    have HVL : Hid ((.slice k1.p k1.l.length k1.c : Value) = .slice g1.p g1.l.length g1.c) := Hid.intro hv0
    have HML := Hid.intro (And.intro hn0 hm0)
    clear hk hv0 hc0 hf0 hn0 hw0 hm0 HX21 HNw21
    have bG : w22.heap[G0]? = some (.cells #[.slice k0_0_0.p k0_0_0.l.length k0_0_0.c, .slice k0_1.p k0_1.l.length k0_1.c] 34 (0, 0)) := HX22.out.ow.1.1
    have c0 : w22.cell? ⟨G0, 0, none⟩ = some (.slice k0_0_0.p k0_0_0.l.length k0_0_0.c) := heap_cell (bG) 0
    have c1 : w22.cell? ⟨G0, 1, none⟩ = some (.slice k0_1.p k0_1.l.length k0_1.c) := heap_cell (bG) 1
    clear bG
    have HCK : Hid (∀ (k : Int) (w : World), yAtmState.rd w (k0_0_0, k0_1) → yAtmState.vmkd (k0_0_0, k0_1) k → 0 ≤ k → k + (yAtmState.vcnt (k0_0_0, k0_1) : Int) ≤ 1000000000000000 → Calls Tryz.prog 20 #[.agg #[.slice k0_0_0.p k0_0_0.l.length k0_0_0.c, .slice k0_1.p k0_1.l.length k0_1.c], .int .i64 k] w fun e w' => e = .returned (.int .i64 (k + (yAtmState.vcnt (k0_0_0, k0_1) : Int))) ∧ Below w.heap.size w w') := Hid.intro (yAtmState_held (k0_0_0, k0_1))
    go_wp2_with fail
    refine (HCK.out _ w22 (yAtmState_law.ow_rd HX22.out.ow.1.2) HMK.out.2 (by decide) (by have := HV.out; have := HMK.out.1; omega)).mono ?_
    rintro e w23 ⟨he, hb⟩
    rw [HMK.out.1] at he
    subst he
    have HX23 := Hid.intro (HX22.out.blwB kb4 hb)
    have HNw23 := Hid.intro (HNw22.out.trans (hb.mono HNw22.out.size))
    clear hb HX22 HNw22 c0 c1 HCK
    have hI0 : ¬ (1 + ((yAtmState.vcnt (g0_0_0, g0_1) : Nat) : Int) < 0) := by omega
    go_wp2_with fail
    rw [← HVL.out]
    refine (yRspRspS_held k1 _ w23 (yRspRspS_law.ow_rd HX23.out.ow.2) HML.out.2 (by omega) (by have := HV.out; have := HML.out.1; omega)).mono ?_
    rintro e wQ ⟨he, hb⟩
    rw [HML.out.1] at he
    subst he
    have HXQ := Hid.intro (HX23.out.blwB kb4 hb)
    have HNwQ := Hid.intro (HNw23.out.trans (hb.mono HNw23.out.size))
    clear hb HX23 HNw23 hI0
    have hI1 : ¬ (1 + ((yAtmState.vcnt (g0_0_0, g0_1) : Nat) : Int) + ((yRspRspS.vcnt g1 : Nat) : Int) < 0) := by omega
    have HBW9 := Hid.intro (HOLD.out wQ HNwQ.out).2.2.2.2
    have H5 := Hid.intro (HOLD.out wQ HNwQ.out).2.2.2.1
    have hl5 := heap_lt H5.out
    obtain ⟨K5, hK5⟩ : ∃ K5 : World → Value → Prop, K5 = Ans2 yAtmState yRspRspS z0 z1 wQ.heap.size := ⟨_, rfl⟩
    have h5g : ∀ w w' v, Gr w w' → K5 w v → K5 w' v := by rw [hK5]; exact Ans2.gr yAtmState_law.blk yRspRspS_law.blk
    have h5ta : ∀ w w' v, KT 34 w w' → K5 w v → K5 w' v := by rw [hK5]; exact Ans2.kt yAtmState_law yRspRspS_law (by decide) (by decide)
    have h5t : ∀ W v, K5 W v → ∃ va vb, v = .tuple #[va, vb] := by rw [hK5]; rintro W v ⟨x, y, e, _⟩; exact ⟨_, _, e⟩
    have h5s : ∀ W v, K5 W v → ∃ p0 n0 k0 p1 n1 k1 v2, v = .tuple #[.agg #[.slice p0 n0 k0, .slice p1 n1 k1], v2] := by rw [hK5]; rintro W v ⟨x, y, e, _⟩; exact ⟨_, _, _, _, _, _, _, e⟩
    have HTM9 : Hid (∀ W, Below wQ.heap.size wQ W → Calls Tryz.prog 8 #[.slice a.p a.l.length a.c] W fun e w' => (∃ v, e = .returned v ∧ KM w' v) ∧ Below W.heap.size W w') := Hid.intro (fun W hW => HTM.out W (HBW9.out.trans (hW.mono HBW9.out.size)))
    have HTS9 : Hid (∀ W, Below wQ.heap.size wQ W → Calls Tryz.prog 9 #[.agg #[.slice s_0_0.p s_0_0.l.length s_0_0.c, .slice s_1.p s_1.l.length s_1.c]] W fun e w' => (∃ v, e = .returned v ∧ KS w' v) ∧ Below W.heap.size W w') := Hid.intro (fun W hW => HTS.out W (HBW9.out.trans (hW.mono HBW9.out.size)))
    have HTQ9 : Hid (∀ W, Below wQ.heap.size wQ W → Calls Tryz.prog 10 #[.slice q.p q.l.length q.c] W fun e w' => (∃ v, e = .returned v ∧ KQ w' v) ∧ Below W.heap.size W w') := Hid.intro (fun W hW => HTQ.out W (HBW9.out.trans (hW.mono HBW9.out.size)))
    have HDO9 : Hid (∀ vM vS vQ W, Below wQ.heap.size wQ W → KM W vM → KS W vS → KQ W vQ → Calls Tryz.prog 11 #[vM, vS, .int .i64 who, vQ] W fun e w' => (∃ v, e = .returned v ∧ K5 w' v) ∧ Below W.heap.size W w') := by
      refine Hid.intro (fun vM vS vQ W hW h1 h2 h3 => ?_)
      rw [HKM.out] at h1
      rw [HKS.out] at h2
      rw [HKQ.out] at h3
      rw [hK5]
      exact run_do HI.out HZZ.out _ vM vS vQ W hW.size h1 h2 h3
    have HK5 := Hid.intro hK5
    clear hK5
    go_wp2_with fail
    refine wp_region_fl (by kernel_rfl) (fl_xrb (.slice a.p a.l.length a.c) (.agg #[.slice s_0_0.p s_0_0.l.length s_0_0.c, .slice s_1.p s_1.l.length s_1.c]) (.int .i64 who) (.slice q.p q.l.length q.c) A5 KM KS KQ wQ.heap.size K5) (fun _ => Below wQ.heap.size wQ) [130, 131, 132, 133, 134, 135, 136, 137, 129, 138, 139, 20, 21] (by kernel_rfl) (by kernel_rfl) (by kernel_rfl) ?c0 ?looks ?done
    case looks =>
      intro hcl i o ho
      rcases i with _ | _ | _ | _ | _ | _ | _ | _ | _ | _ | _ | _ | _ | _ | i
      · simp at ho; subst ho
        refine fo_det (st_xrb (.slice a.p a.l.length a.c) (.agg #[.slice s_0_0.p s_0_0.l.length s_0_0.c, .slice s_1.p s_1.l.length s_1.c]) (.int .i64 who) (.slice q.p q.l.length q.c) A5 KM KS KQ wQ.heap.size K5 h5g hMg hMt hSg hSt hQg hQt) hcl rfl rfl rfl rfl (by kernel_rfl) (fun _ _ h => h) (fun done ρ W hat => ?_)
        have e0 : ρ (.tmp 0) = (.slice a.p a.l.length a.c) := hat.out 0 (by kernel_rfl)
        have hC := hat.cls
        have hc := hat.con
        simp only [execOp, e0]
        go_simp
      · simp at ho; subst ho
        refine fo_grow (st_xrb (.slice a.p a.l.length a.c) (.agg #[.slice s_0_0.p s_0_0.l.length s_0_0.c, .slice s_1.p s_1.l.length s_1.c]) (.int .i64 who) (.slice q.p q.l.length q.c) A5 KM KS KQ wQ.heap.size K5 h5g hMg hMt hSg hSt hQg hQt) hcl rfl rfl (fun done ρ W hat => ?_)
        have e130 : ρ (.tmp 130) = .slice a.p a.l.length a.c := fIs_at (d := 130) (v := .slice a.p a.l.length a.c) (hat.fact 0 (by kernel_rfl))
        have hC := hat.cls
        have hf := hat.fn
        refine up_call 8 #[.slice a.p a.l.length a.c] (by simp only [execOp]; go_simp) ?_
        refine (HTM9.out W hC).mono ?_
        rintro e W1 ⟨⟨v, rfl, hKv⟩, hb⟩
        exact ⟨v, rfl, hC.trans (hb.mono hC.size), hb, fK_mk (by rw [updV_same]; exact hKv), free_spec (by kernel_rfl) hat.lt⟩
      · simp at ho; subst ho
        refine fo_det (st_xrb (.slice a.p a.l.length a.c) (.agg #[.slice s_0_0.p s_0_0.l.length s_0_0.c, .slice s_1.p s_1.l.length s_1.c]) (.int .i64 who) (.slice q.p q.l.length q.c) A5 KM KS KQ wQ.heap.size K5 h5g hMg hMt hSg hSt hQg hQt) hcl rfl rfl rfl rfl (by kernel_rfl) (fun _ _ h => h) (fun done ρ W hat => ?_)
        have e5 : ρ (.tmp 5) = .pointer (some ⟨A5, 0, none⟩) := hat.out 5 (by kernel_rfl)
        have hC := hat.cls
        have hbx := (hC.block _ hl5).trans H5.out
        have c0 := (heap_cell hbx 0).trans rfl
        have c1 := (heap_cell hbx 1).trans rfl
        have hc := hat.con
        simp only [execOp, e5]
        go_simp
      · simp at ho; subst ho
        refine fo_grow (st_xrb (.slice a.p a.l.length a.c) (.agg #[.slice s_0_0.p s_0_0.l.length s_0_0.c, .slice s_1.p s_1.l.length s_1.c]) (.int .i64 who) (.slice q.p q.l.length q.c) A5 KM KS KQ wQ.heap.size K5 h5g hMg hMt hSg hSt hQg hQt) hcl rfl rfl (fun done ρ W hat => ?_)
        have e132 : ρ (.tmp 132) = .agg #[.slice s_0_0.p s_0_0.l.length s_0_0.c, .slice s_1.p s_1.l.length s_1.c] := fIs_at (d := 132) (v := .agg #[.slice s_0_0.p s_0_0.l.length s_0_0.c, .slice s_1.p s_1.l.length s_1.c]) (hat.fact 2 (by kernel_rfl))
        have hC := hat.cls
        have hf := hat.fn
        refine up_call 9 #[.agg #[.slice s_0_0.p s_0_0.l.length s_0_0.c, .slice s_1.p s_1.l.length s_1.c]] (by simp only [execOp]; go_simp) ?_
        refine (HTS9.out W hC).mono ?_
        rintro e W1 ⟨⟨v, rfl, hKv⟩, hb⟩
        exact ⟨v, rfl, hC.trans (hb.mono hC.size), hb, fK_mk (by rw [updV_same]; exact hKv), free_spec (by kernel_rfl) hat.lt⟩
      · simp at ho; subst ho
        refine fo_det (st_xrb (.slice a.p a.l.length a.c) (.agg #[.slice s_0_0.p s_0_0.l.length s_0_0.c, .slice s_1.p s_1.l.length s_1.c]) (.int .i64 who) (.slice q.p q.l.length q.c) A5 KM KS KQ wQ.heap.size K5 h5g hMg hMt hSg hSt hQg hQt) hcl rfl rfl rfl rfl (by kernel_rfl) (fun _ _ h => h) (fun done ρ W hat => ?_)
        have e2 : ρ (.tmp 2) = (.int .i64 who) := hat.out 2 (by kernel_rfl)
        have hC := hat.cls
        have hc := hat.con
        simp only [execOp, e2]
        go_simp
      · simp at ho; subst ho
        refine fo_det (st_xrb (.slice a.p a.l.length a.c) (.agg #[.slice s_0_0.p s_0_0.l.length s_0_0.c, .slice s_1.p s_1.l.length s_1.c]) (.int .i64 who) (.slice q.p q.l.length q.c) A5 KM KS KQ wQ.heap.size K5 h5g hMg hMt hSg hSt hQg hQt) hcl rfl rfl rfl rfl (by kernel_rfl) (fun _ _ h => h) (fun done ρ W hat => ?_)
        have e3 : ρ (.tmp 3) = (.slice q.p q.l.length q.c) := hat.out 3 (by kernel_rfl)
        have hC := hat.cls
        have hc := hat.con
        simp only [execOp, e3]
        go_simp
      · simp at ho; subst ho
        refine fo_grow (st_xrb (.slice a.p a.l.length a.c) (.agg #[.slice s_0_0.p s_0_0.l.length s_0_0.c, .slice s_1.p s_1.l.length s_1.c]) (.int .i64 who) (.slice q.p q.l.length q.c) A5 KM KS KQ wQ.heap.size K5 h5g hMg hMt hSg hSt hQg hQt) hcl rfl rfl (fun done ρ W hat => ?_)
        have e135 : ρ (.tmp 135) = .slice q.p q.l.length q.c := fIs_at (d := 135) (v := .slice q.p q.l.length q.c) (hat.fact 5 (by kernel_rfl))
        have hC := hat.cls
        have hf := hat.fn
        refine up_call 10 #[.slice q.p q.l.length q.c] (by simp only [execOp]; go_simp) ?_
        refine (HTQ9.out W hC).mono ?_
        rintro e W1 ⟨⟨v, rfl, hKv⟩, hb⟩
        exact ⟨v, rfl, hC.trans (hb.mono hC.size), hb, fK_mk (by rw [updV_same]; exact hKv), free_spec (by kernel_rfl) hat.lt⟩
      · simp at ho; subst ho
        refine fo_grow (st_xrb (.slice a.p a.l.length a.c) (.agg #[.slice s_0_0.p s_0_0.l.length s_0_0.c, .slice s_1.p s_1.l.length s_1.c]) (.int .i64 who) (.slice q.p q.l.length q.c) A5 KM KS KQ wQ.heap.size K5 h5g hMg hMt hSg hSt hQg hQt) hcl rfl rfl (fun done ρ W hat => ?_)
        have e134 : ρ (.tmp 134) = (.int .i64 who) := fIs_at (d := 134) (v := (.int .i64 who)) (hat.fact 4 (by kernel_rfl))
        have hC := hat.cls
        have hf := hat.fn
        have qM : KM W (ρ (.tmp 131)) := fK_at (d := 131) (K := KM) (hat.fact 1 (by kernel_rfl))
        obtain ⟨vM, eM⟩ : ∃ v, ρ (.tmp 131) = v := ⟨_, rfl⟩
        rw [eM] at qM
        have qS : KS W (ρ (.tmp 133)) := fK_at (d := 133) (K := KS) (hat.fact 3 (by kernel_rfl))
        obtain ⟨vS, eS⟩ : ∃ v, ρ (.tmp 133) = v := ⟨_, rfl⟩
        rw [eS] at qS
        have qQ : KQ W (ρ (.tmp 136)) := fK_at (d := 136) (K := KQ) (hat.fact 6 (by kernel_rfl))
        obtain ⟨vQ, eQ⟩ : ∃ v, ρ (.tmp 136) = v := ⟨_, rfl⟩
        rw [eQ] at qQ
        refine up_call 11 #[vM, vS, .int .i64 who, vQ] (by simp only [execOp]; go_simp) ?_
        refine (HDO9.out vM vS vQ W hC qM qS qQ).mono ?_
        rintro e W1 ⟨⟨v, rfl, hKv⟩, hb⟩
        exact ⟨v, rfl, hC.trans (hb.mono hC.size), hb, fK_mk (by rw [updV_same]; exact hKv), free_spec (by kernel_rfl) hat.lt⟩
      · simp at ho; subst ho
        refine fo_grow (st_xrb (.slice a.p a.l.length a.c) (.agg #[.slice s_0_0.p s_0_0.l.length s_0_0.c, .slice s_1.p s_1.l.length s_1.c]) (.int .i64 who) (.slice q.p q.l.length q.c) A5 KM KS KQ wQ.heap.size K5 h5g hMg hMt hSg hSt hQg hQt) hcl rfl rfl (fun done ρ W hat => ?_)
        have hC := hat.cls
        have hK : K5 W (ρ (.tmp 137)) := (fK_at (d := 137) (K := K5) (hat.fact 7 (by kernel_rfl)))
        refine up_val (ρ (.tmp 137)) W (by simp only [execOp]; go_simp) ⟨hC, Gr.refl _, fK_mk (by rw [updV_same]; exact hK), free_spec (by kernel_rfl) hat.lt⟩
      · simp at ho; subst ho
        refine fo_grow (st_xrb (.slice a.p a.l.length a.c) (.agg #[.slice s_0_0.p s_0_0.l.length s_0_0.c, .slice s_1.p s_1.l.length s_1.c]) (.int .i64 who) (.slice q.p q.l.length q.c) A5 KM KS KQ wQ.heap.size K5 h5g hMg hMt hSg hSt hQg hQt) hcl rfl rfl (fun done ρ W hat => ?_)
        have hC := hat.cls
        have hK : K5 W (ρ (.tmp 129)) := (fK_at (d := 129) (K := K5) (hat.fact 8 (by kernel_rfl)))
        obtain ⟨va, vb, em⟩ := h5t _ _ hK
        refine up_val va W (by simp only [execOp]; go_simp) ⟨hC, Gr.refl _, ⟨vb, ?_⟩, free_spec (by kernel_rfl) hat.lt⟩
        exact em
      · simp at ho; subst ho
        refine fo_grow (st_xrb (.slice a.p a.l.length a.c) (.agg #[.slice s_0_0.p s_0_0.l.length s_0_0.c, .slice s_1.p s_1.l.length s_1.c]) (.int .i64 who) (.slice q.p q.l.length q.c) A5 KM KS KQ wQ.heap.size K5 h5g hMg hMt hSg hSt hQg hQt) hcl rfl rfl (fun done ρ W hat => ?_)
        have hC := hat.cls
        have hK : K5 W (ρ (.tmp 129)) := (fK_at (d := 129) (K := K5) (hat.fact 8 (by kernel_rfl)))
        obtain ⟨va, vb, em⟩ := h5t _ _ hK
        refine up_val vb W (by simp only [execOp]; go_simp) ⟨hC, Gr.refl _, ⟨va, ?_⟩, free_spec (by kernel_rfl) hat.lt⟩
        exact em
      · simp at ho; subst ho
        refine fo_grow (st_xrb (.slice a.p a.l.length a.c) (.agg #[.slice s_0_0.p s_0_0.l.length s_0_0.c, .slice s_1.p s_1.l.length s_1.c]) (.int .i64 who) (.slice q.p q.l.length q.c) A5 KM KS KQ wQ.heap.size K5 h5g hMg hMt hSg hSt hQg hQt) hcl rfl rfl (fun done ρ W hat => ?_)
        have hC := hat.cls
        refine up_val (.pointer (some ⟨W.heap.size, 0, none⟩)) (W.alloc (.cells #[.slice none 0 0, .slice none 0 0] 34)) (by simp only [execOp]; go_simp) ⟨hC.trans ((below_nw _ _).mono hC.size), below_nw _ _, ⟨W.heap.size, _, _, ?_, hC.size, nw_at _ rfl⟩, free_spec (by kernel_rfl) hat.lt⟩
        exact rfl
      · simp at ho; subst ho
        refine fo_rel (S := KT 34) (E := [11, 12]) (kta_xrb (.slice a.p a.l.length a.c) (.agg #[.slice s_0_0.p s_0_0.l.length s_0_0.c, .slice s_1.p s_1.l.length s_1.c]) (.int .i64 who) (.slice q.p q.l.length q.c) A5 KM KS KQ wQ.heap.size K5 h5ta hMg hMt hSg hSt hQg hQt) hcl rfl rfl (fun done ρ W hat => ?_)
        have hC := hat.cls
        have hK : K5 W (ρ (.tmp 129)) := (fK_at (d := 129) (K := K5) (hat.fact 8 (by kernel_rfl)))
        obtain ⟨bb, ex⟩ := hat.fact 9 (by kernel_rfl)
        obtain ⟨b, o0, o1, eb, hMb, hbx⟩ := hat.fact 11 (by kernel_rfl)
        have ex : ρ (.tmp 129) = .tuple #[ρ (.tmp 138), bb] := ex
        have eb : ρ (.tmp 20) = .pointer (some ⟨b, 0, none⟩) := eb
        obtain ⟨p0, n0, k0, p1, n1, k1, v2, ev⟩ := h5s _ _ hK
        rw [ev] at ex
        simp only [Value.tuple.injEq, List.toArray_inj, Array.mk.injEq, List.cons.injEq] at ex
        have ex : ρ (.tmp 138) = .agg #[.slice p0 n0 k0, .slice p1 n1 k1] := ex.1.symm
        have hR1 := heap_set hbx 0 (.slice p0 n0 k0)
        refine up_store2 rfl eb ex hbx ⟨(hC.setCell (p := ⟨b, 0, none⟩) hMb _).setCell (p := ⟨b, 1, none⟩) hMb _, (KT.set hbx _).trans (KT.set hR1 _), ⟨b, _, _, eb, hMb, ex, (heap_set hR1 1 _).trans rfl⟩, fun j hj hcj => ?_⟩
        rcases aska_xrb j (hat.lt j hj) hcj with rfl | rfl
        · exact ⟨b, _, _, eb, hMb, (heap_set hR1 1 _).trans rfl⟩
        · rw [hat.new] at hj; cases hj
      · simp at ho; subst ho
        refine fo_grow (st_xrb (.slice a.p a.l.length a.c) (.agg #[.slice s_0_0.p s_0_0.l.length s_0_0.c, .slice s_1.p s_1.l.length s_1.c]) (.int .i64 who) (.slice q.p q.l.length q.c) A5 KM KS KQ wQ.heap.size K5 h5g hMg hMt hSg hSt hQg hQt) hcl rfl rfl (fun done ρ W hat => ?_)
        have hC := hat.cls
        refine up_val (ρ (.tmp 139)) W (by simp only [execOp]; go_simp) ⟨hC, Gr.refl _, ?_, free_spec (by kernel_rfl) hat.lt⟩
        exact rfl
      · simp at ho
    case c0 => exact (Below.refl _ _).drew
    case done =>
      intro f w24 hC hf hout
      have hK : K5 w24 (f 129) := fK_at (d := 129) (K := K5) (hf 8 (by decide))
      obtain ⟨vb, ex0⟩ : ∃ b, f 129 = .tuple #[f 138, b] := hf 9 (by decide)
      obtain ⟨va, ex1⟩ : ∃ b, f 129 = .tuple #[b, f 139] := hf 10 (by decide)
      have ev1 : f 21 = f 139 := hf 13 (by decide)
      obtain ⟨H0, u0, u1, eb0, hM0, ev0, H0⟩ : ∃ b v0 v1, f 20 = .pointer (some ⟨b, 0, none⟩) ∧ wQ.heap.size ≤ b ∧ f 138 = .agg #[v0, v1] ∧ w24.heap[b]? = some (.cells #[v0, v1] 34 (0, 0)) := hf 12 (by decide)
      rw [HK5.out] at hK
      obtain ⟨⟨n0_0_0, n0_1⟩, n1, eK, np0, np1, nz, nf⟩ := hK
      have eK' : f 129 = .tuple #[.agg #[.slice n0_0_0.p n0_0_0.l.length n0_0_0.c, .slice n0_1.p n0_1.l.length n0_1.c], .slice n1.p n1.l.length n1.c] := eK
      rw [eK'] at ex0 ex1
      simp only [Value.tuple.injEq, List.toArray_inj, Array.mk.injEq, List.cons.injEq] at ex0 ex1
      rw [← ex0.1] at ev0
      rw [← ex1.2.1] at ev1
      cases ev0
      have HAn := Hid.intro (And.intro np0 (And.intro np1 (And.intro nz nf)))
      have HBn := Hid.intro H0
      have ln := heap_lt H0
      have HCn := Hid.intro hC
      have Ln := Hid.intro hM0
      clear hf hout ex0 ex1 eK eK' np0 np1 nz nf H0 h5g h5ta h5t h5s HK5 hC hM0
      simp only [fill, eb0, ev1]
      go_simp
      clear eb0 ev1
      have HX24 := Hid.intro (HXQ.out.blwB kb4 HCn.out)
      have HNw24 := Hid.intro (HNwQ.out.trans (HCn.out.mono HNwQ.out.size))
      clear HXQ HNwQ HBW9 H5 hl5 HTM9 HTS9 HTQ9 HDO9 HCn Ln hI1
      have bP := (HOLD.out w24 HNw24.out).2.2.1
      have c0 : w24.cell? ⟨H0, 0, none⟩ = some (.slice n0_0_0.p n0_0_0.l.length n0_0_0.c) := heap_cell (HBn.out) 0
      have c1 : w24.cell? ⟨H0, 1, none⟩ = some (.slice n0_1.p n0_1.l.length n0_1.c) := heap_cell (HBn.out) 1
      have d0 : w24.cell? ⟨P, 0, none⟩ = some (.slice m0_0_0.p m0_0_0.l.length m0_0_0.c) := heap_cell (bP) 0
      have d1 : w24.cell? ⟨P, 1, none⟩ = some (.slice m0_1.p m0_1.l.length m0_1.c) := heap_cell (bP) 1
      clear bP HBn ln
      have EQB : Hid (∀ (w : World), yAtmState.rd w (n0_0_0, n0_1) → yAtmState.rd w (m0_0_0, m0_1) → yAtmState.pl (n0_0_0, n0_1) = yAtmState.pl (m0_0_0, m0_1) → Calls Tryz.prog 12 #[.agg #[.slice n0_0_0.p n0_0_0.l.length n0_0_0.c, .slice n0_1.p n0_1.l.length n0_1.c], .agg #[.slice m0_0_0.p m0_0_0.l.length m0_0_0.c, .slice m0_1.p m0_1.l.length m0_1.c]] w fun e w' => e = .returned (.bool true) ∧ Below w.heap.size w w') := Hid.intro (yAtmState_eq (n0_0_0, n0_1) (m0_0_0, m0_1))
      go_wp2_with fail
      refine (EQB.out w24 (yAtmState_law.ow_rd HAn.out.2.2.2.ow.1) (HOLD.out w24 HNw24.out).1 (HAn.out.1.trans HPM.out.1.symm)).mono ?_
      rintro e w25 ⟨rfl, hb⟩
      have HX25 := Hid.intro (HX24.out.blwB kb4 hb)
      have HNw25 := Hid.intro (HNw24.out.trans (hb.mono HNw24.out.size))
      have HN1 := Hid.intro (yRspRspS_law.ow_blw HAn.out.2.2.2.ow.2 hb)
      clear hb HX24 HNw24 c0 c1 d0 d1 EQB
      go_wp2_with fail
      refine (yRspRspS_eq n1 m1 w25 (yRspRspS_law.ow_rd HN1.out) (HOLD.out w25 HNw25.out).2.1 (HAn.out.2.1.trans HPM.out.2.symm)).mono ?_
      rintro e w26 ⟨rfl, hb⟩
      have HX26 := Hid.intro (HX25.out.blwB kb4 hb)
      have HNw26 := Hid.intro (HNw25.out.trans (hb.mono HNw25.out.size))
      clear hb HX25 HNw25 HN1
      have bG : w26.heap[G0]? = some (.cells #[.slice k0_0_0.p k0_0_0.l.length k0_0_0.c, .slice k0_1.p k0_1.l.length k0_1.c] 34 (0, 0)) := HX26.out.ow.1.1
      have c0 : w26.cell? ⟨G0, 0, none⟩ = some (.slice k0_0_0.p k0_0_0.l.length k0_0_0.c) := heap_cell (bG) 0
      have c1 : w26.cell? ⟨G0, 1, none⟩ = some (.slice k0_1.p k0_1.l.length k0_1.c) := heap_cell (bG) 1
      clear bG
      have HCK : Hid (∀ (k : Int) (w : World), yAtmState.rd w (k0_0_0, k0_1) → yAtmState.vmkd (k0_0_0, k0_1) k → 0 ≤ k → k + (yAtmState.vcnt (k0_0_0, k0_1) : Int) ≤ 1000000000000000 → Calls Tryz.prog 20 #[.agg #[.slice k0_0_0.p k0_0_0.l.length k0_0_0.c, .slice k0_1.p k0_1.l.length k0_1.c], .int .i64 k] w fun e w' => e = .returned (.int .i64 (k + (yAtmState.vcnt (k0_0_0, k0_1) : Int))) ∧ Below w.heap.size w w') := Hid.intro (yAtmState_held (k0_0_0, k0_1))
      go_wp2_with fail
      refine (HCK.out _ w26 (yAtmState_law.ow_rd HX26.out.ow.1.2) HMK.out.2 (by decide) (by have := HV.out; have := HMK.out.1; omega)).mono ?_
      rintro e w27 ⟨he, hb⟩
      rw [HMK.out.1] at he
      subst he
      have HX27 := Hid.intro (HX26.out.blwB kb4 hb)
      have HNw27 := Hid.intro (HNw26.out.trans (hb.mono HNw26.out.size))
      clear hb HX26 HNw26 c0 c1 HCK
      have hI0 : ¬ (1 + ((yAtmState.vcnt (g0_0_0, g0_1) : Nat) : Int) < 0) := by omega
      go_wp2_with fail
      refine (yRspRspS_held k1 _ w27 (yRspRspS_law.ow_rd HX27.out.ow.2) HML.out.2 (by omega) (by have := HV.out; have := HML.out.1; omega)).mono ?_
      rintro e w28 ⟨he, hb⟩
      rw [HML.out.1] at he
      subst he
      have HX28 := Hid.intro (HX27.out.blwB kb4 hb)
      have HNw28 := Hid.intro (HNw27.out.trans (hb.mono HNw27.out.size))
      clear hb HX27 HNw27 hI0
      have hI1 : ¬ (1 + ((yAtmState.vcnt (g0_0_0, g0_1) : Nat) : Int) + ((yRspRspS.vcnt g1 : Nat) : Int) < 0) := by omega
      have hend := (HOLD.out w28 HNw28.out).2.2.2.2
      clear HX28 HNw28
      go_wp2
      go_ret
      exact ⟨rfl, hend⟩

end fnExactAtmRun

end Go.Proofs.YtpamjkkghghggaaGreat
