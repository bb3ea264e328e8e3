/-
  BusApart of the program.
-/
import Derived.Test.YtlifkfemdknndaaApSM
import Derived.Test.YtlifkfemdknndaaImpA
import Derived.Test.YtlifkfemdknndaaImplUM
import Derived.BigQuiet
namespace Go.Proofs.Ytlifkfemdknndaa
open Go.RowKit
set_option linter.unusedSimpArgs false
set_option linter.unusedVariables false

def hasB (xs : List Int) (j : Int) : Bool := xs.any (fun x => x == j)
def meetB (a0 a1 a2 a3 b0 b1 b2 b3 : Bool) : Bool := (a0 && b0) || ((a1 && b1) || ((a2 && b2) || (a3 && b3)))
theorem hasB_step {xs : List Int} {k : Nat} (hk : k < xs.length) (j : Int) : hasB (xs.take (k + 1)) j = (hasB (xs.take k) j || xs[k] == j) := by
  unfold hasB; rw [List.take_succ_eq_append_getElem hk, List.any_append]; simp
theorem meet_iff {xs ys : List Int} (hx : ∀ x ∈ xs, 0 ≤ x ∧ x ≤ 3) : meetB (hasB xs 0) (hasB xs 1) (hasB xs 2) (hasB xs 3) (hasB ys 0) (hasB ys 1) (hasB ys 2) (hasB ys 3) = !(ys.all (fun y => xs.all (fun x => !(y == x)))) := by
  by_cases h : ∃ x, x ∈ xs ∧ x ∈ ys
  · obtain ⟨x, h1, h2⟩ := h
    have e1 : ys.all (fun y => xs.all (fun x => !(y == x))) = false := List.all_eq_false.2 ⟨x, h2, by simp only [Bool.not_eq_true]; exact List.all_eq_false.2 ⟨x, h1, by simp⟩⟩
    have g1 : hasB xs x = true := List.any_eq_true.2 ⟨x, h1, by simp⟩
    have g2 : hasB ys x = true := List.any_eq_true.2 ⟨x, h2, by simp⟩
    have hr := hx x h1
    rw [e1]
    have : x = 0 ∨ x = 1 ∨ x = 2 ∨ x = 3 := by omega
    rcases this with rfl | rfl | rfl | rfl <;> simp [meetB, g1, g2]
  · have e1 : ys.all (fun y => xs.all (fun x => !(y == x))) = true := List.all_eq_true.2 (fun y hy => List.all_eq_true.2 (fun x hx' => by
      simp only [Bool.not_eq_true', beq_eq_false_iff_ne]
      intro e; subst e; exact h ⟨_, hx', hy⟩))
    have g : ∀ j, (hasB xs j && hasB ys j) = false := fun j => by
      cases h1 : hasB xs j
      · rfl
      · cases h2 : hasB ys j
        · rfl
        · exfalso
          obtain ⟨x, hx1, hx2⟩ := List.any_eq_true.1 h1
          obtain ⟨y, hy1, hy2⟩ := List.any_eq_true.1 h2
          have ex : x = j := by simpa using hx2
          have ey : y = j := by simpa using hy2
          subst ex; subst ey
          exact h ⟨_, hx1, hy1⟩
    rw [e1]
    simp [meetB, g]

theorem okAll_sl : ∀ (l : List Rng) (p : List Rng), okAll p l = true → ∀ r ∈ l, rngOkB r = true
  | [], _, _, r, hr => by simp at hr
  | x :: l, p, h, r, hr => by
    unfold okAll at h
    simp only [Bool.and_eq_true] at h
    rcases List.mem_cons.1 hr with rfl | hr
    · exact h.1.1
    · exact okAll_sl l _ h.2 r hr
theorem slave_in {ms : List Rng} {r : Req} (h1 : mapOkB ms = true) (h2 : reqOkB r = true) : 0 ≤ reqSlaveZ ms r ∧ reqSlaveZ ms r ≤ 3 := by
  unfold reqSlaveZ
  rw [h1, h2]
  simp only [Bool.and_self, if_true]
  unfold slaveAt
  split
  · omega
  · split
    · rename_i r hr
      have hm := List.mem_of_getElem? hr
      have : rngOkB r = true := by
        unfold mapOkB at h1
        simp only [Bool.and_eq_true] at h1
        exact okAll_sl _ _ h1.2 r hm
      simp only [rngOkB, decide_eq_true_eq] at this
      omega
    · omega
theorem slvs_in {z : ((List (Int × Int × Int × Bool)) × (List Int) × (List (List (Int × Int × Int × Int × Bool × (List Int) × (List Int)))))} (h : busOkP z = true) (k : Nat) : ∀ x ∈ slvs z k, 0 ≤ x ∧ x ≤ 3 := by
  intro x hx
  unfold slvs at hx
  obtain ⟨r, hr, rfl⟩ := List.mem_map.1 hx
  unfold busOkP at h
  simp only [Bool.and_eq_true, decide_eq_true_eq] at h
  refine slave_in h.1 ?_
  have hp := h.2.2.2.2
  unfold progsB at hp
  rw [List.getD_eq_getElem?_getD] at hr
  cases hk : z.2.2[k]? with
  | none => rw [hk] at hr; simp at hr
  | some q =>
    rw [hk] at hr
    have := List.all_eq_true.1 hp q (List.mem_of_getElem? hk)
    simp only [Bool.and_eq_true] at this
    have h2 := this.2
    unfold progOkB at h2
    exact List.all_eq_true.1 h2 r hr

set_option maxRecDepth 100000 in
set_option maxHeartbeats 2000000 in
theorem busStoresMeet_any (a0 a1 a2 a3 b0 b1 b2 b3 : Bool) (w : World) :
    Calls Try.prog 44 #[.agg #[.bool a0, .bool a1, .bool a2, .bool a3], .agg #[.bool b0, .bool b1, .bool b2, .bool b3]] w fun e w' => e = .returned (.bool (meetB a0 a1 a2 a3 b0 b1 b2 b3)) ∧ Below w.heap.size w w' := by
  have hbl : ∀ o o', Below w.heap.size w ((w.alloc o).alloc o') := fun o o' => ((Below.refl _ w).alloc (Nat.le_refl _) o).alloc (by simp) o'
  have HE : Hid (∀ v, v = meetB a0 a1 a2 a3 b0 b1 b2 b3 → (Ending.returned (.bool v) : Ending) = .returned (.bool (meetB a0 a1 a2 a3 b0 b1 b2 b3))) := Hid.intro (fun v h => by rw [h])
  go_enter Try.func44, Try.ntmps44
  go_wp2
  have bA : ((w.alloc (.cells #[.bool a0, .bool a1, .bool a2, .bool a3] 73)).alloc (.cells #[.bool b0, .bool b1, .bool b2, .bool b3] 73)).heap[w.heap.size]? = some (.cells #[.bool a0, .bool a1, .bool a2, .bool a3] 73 (0, 0)) := (Below.heap_alloc _ _ _ (by simp)).trans (nw_k _ rfl)
  have bB : ((w.alloc (.cells #[.bool a0, .bool a1, .bool a2, .bool a3] 73)).alloc (.cells #[.bool b0, .bool b1, .bool b2, .bool b3] 73)).heap[w.heap.size + 1]? = some (.cells #[.bool b0, .bool b1, .bool b2, .bool b3] 73 (0, 0)) := nw_k _ (by simp)
  have hB := hbl (.cells #[.bool a0, .bool a1, .bool a2, .bool a3] 73) (.cells #[.bool b0, .bool b1, .bool b2, .bool b3] 73)
  obtain ⟨W, hW⟩ : ∃ W, W = (w.alloc (.cells #[.bool a0, .bool a1, .bool a2, .bool a3] 73)).alloc (.cells #[.bool b0, .bool b1, .bool b2, .bool b3] 73) := ⟨_, rfl⟩
  rw [← hW] at bA bB hB ⊢
  clear hW hbl
  go_loopw [6] (fun i wr => ∃ k : Nat, k ≤ 4 ∧ i = .int .i64 k ∧ wr = W ∧ Hid ((0 < k → (a0 && b0) = false) ∧ (1 < k → (a1 && b1) = false) ∧ (2 < k → (a2 && b2) = false) ∧ (3 < k → (a3 && b3) = false))) (fun i _ => 4 - (intOf i).toNat)
  case atStart => exact ⟨0, by omega, rfl, rfl, Hid.intro ⟨fun h => by omega, fun h => by omega, fun h => by omega, fun h => by omega⟩⟩
  case round =>
    obtain ⟨k, hk, rfl, rfl, HM⟩ := hrel
    have x0 : wr.cell? ⟨w.heap.size, 0, none⟩ = some (.bool a0) := heap_cell bA 0
    have x1 : wr.cell? ⟨w.heap.size, 1, none⟩ = some (.bool a1) := heap_cell bA 1
    have x2 : wr.cell? ⟨w.heap.size, 2, none⟩ = some (.bool a2) := heap_cell bA 2
    have x3 : wr.cell? ⟨w.heap.size, 3, none⟩ = some (.bool a3) := heap_cell bA 3
    have y0 : wr.cell? ⟨w.heap.size + 1, 0, none⟩ = some (.bool b0) := heap_cell bB 0
    have y1 : wr.cell? ⟨w.heap.size + 1, 1, none⟩ = some (.bool b1) := heap_cell bB 1
    have y2 : wr.cell? ⟨w.heap.size + 1, 2, none⟩ = some (.bool b2) := heap_cell bB 2
    have y3 : wr.cell? ⟨w.heap.size + 1, 3, none⟩ = some (.bool b3) := heap_cell bB 3
    have HBB := Hid.intro hB
    clear bA bB hB
    rcases k with _ | _ | _ | _ | k
    · rcases Bool.eq_false_or_eq_true a0 with h1 | h1
      rotate_left
      · have HN : Hid ((0 < 1 → (a0 && b0) = false) ∧ (1 < 1 → (a1 && b1) = false) ∧ (2 < 1 → (a2 && b2) = false) ∧ (3 < 1 → (a3 && b3) = false)) := Hid.intro ⟨fun _ => by rw [h1]; rfl, fun h => by omega, fun h => by omega, fun h => by omega⟩
        rw [h1] at x0
        clear HM h1
        go_wp2
        go_roundw
        case rel => exact ⟨1, by omega, by go_num, by simp, HN⟩
        case measure => simp [intOf]
      · rcases Bool.eq_false_or_eq_true b0 with h2 | h2
        rotate_left
        · have HN : Hid ((0 < 1 → (a0 && b0) = false) ∧ (1 < 1 → (a1 && b1) = false) ∧ (2 < 1 → (a2 && b2) = false) ∧ (3 < 1 → (a3 && b3) = false)) := Hid.intro ⟨fun _ => by rw [h2]; simp, fun h => by omega, fun h => by omega, fun h => by omega⟩
          rw [h1] at x0
          rw [h2] at y0
          clear HM h1 h2
          go_wp2
          go_roundw
          case rel => exact ⟨1, by omega, by go_num, by simp, HN⟩
          case measure => simp [intOf]
        · have HX : Hid (meetB a0 a1 a2 a3 b0 b1 b2 b3 = true) := Hid.intro (by unfold meetB; rw [h1, h2]; simp)
          rw [h1] at x0
          rw [h2] at y0
          clear HM h1 h2
          go_wp2
          go_ret
          exact ⟨by rw [HX.out]; rfl, HBB.out⟩
    · rcases Bool.eq_false_or_eq_true a1 with h1 | h1
      rotate_left
      · have HN : Hid ((0 < 2 → (a0 && b0) = false) ∧ (1 < 2 → (a1 && b1) = false) ∧ (2 < 2 → (a2 && b2) = false) ∧ (3 < 2 → (a3 && b3) = false)) := Hid.intro ⟨fun _ => HM.out.1 (by omega), fun _ => by rw [h1]; rfl, fun h => by omega, fun h => by omega⟩
        rw [h1] at x1
        clear HM h1
        go_wp2
        go_roundw
        case rel => exact ⟨2, by omega, by go_num, by simp, HN⟩
        case measure => simp [intOf]
      · rcases Bool.eq_false_or_eq_true b1 with h2 | h2
        rotate_left
        · have HN : Hid ((0 < 2 → (a0 && b0) = false) ∧ (1 < 2 → (a1 && b1) = false) ∧ (2 < 2 → (a2 && b2) = false) ∧ (3 < 2 → (a3 && b3) = false)) := Hid.intro ⟨fun _ => HM.out.1 (by omega), fun _ => by rw [h2]; simp, fun h => by omega, fun h => by omega⟩
          rw [h1] at x1
          rw [h2] at y1
          clear HM h1 h2
          go_wp2
          go_roundw
          case rel => exact ⟨2, by omega, by go_num, by simp, HN⟩
          case measure => simp [intOf]
        · have HX : Hid (meetB a0 a1 a2 a3 b0 b1 b2 b3 = true) := Hid.intro (by unfold meetB; rw [h1, h2]; simp)
          rw [h1] at x1
          rw [h2] at y1
          clear HM h1 h2
          go_wp2
          go_ret
          exact ⟨by rw [HX.out]; rfl, HBB.out⟩
    · rcases Bool.eq_false_or_eq_true a2 with h1 | h1
      rotate_left
      · have HN : Hid ((0 < 3 → (a0 && b0) = false) ∧ (1 < 3 → (a1 && b1) = false) ∧ (2 < 3 → (a2 && b2) = false) ∧ (3 < 3 → (a3 && b3) = false)) := Hid.intro ⟨fun _ => HM.out.1 (by omega), fun _ => HM.out.2.1 (by omega), fun _ => by rw [h1]; rfl, fun h => by omega⟩
        rw [h1] at x2
        clear HM h1
        go_wp2
        go_roundw
        case rel => exact ⟨3, by omega, by go_num, by simp, HN⟩
        case measure => simp [intOf]
      · rcases Bool.eq_false_or_eq_true b2 with h2 | h2
        rotate_left
        · have HN : Hid ((0 < 3 → (a0 && b0) = false) ∧ (1 < 3 → (a1 && b1) = false) ∧ (2 < 3 → (a2 && b2) = false) ∧ (3 < 3 → (a3 && b3) = false)) := Hid.intro ⟨fun _ => HM.out.1 (by omega), fun _ => HM.out.2.1 (by omega), fun _ => by rw [h2]; simp, fun h => by omega⟩
          rw [h1] at x2
          rw [h2] at y2
          clear HM h1 h2
          go_wp2
          go_roundw
          case rel => exact ⟨3, by omega, by go_num, by simp, HN⟩
          case measure => simp [intOf]
        · have HX : Hid (meetB a0 a1 a2 a3 b0 b1 b2 b3 = true) := Hid.intro (by unfold meetB; rw [h1, h2]; simp)
          rw [h1] at x2
          rw [h2] at y2
          clear HM h1 h2
          go_wp2
          go_ret
          exact ⟨by rw [HX.out]; rfl, HBB.out⟩
    · rcases Bool.eq_false_or_eq_true a3 with h1 | h1
      rotate_left
      · have HN : Hid ((0 < 4 → (a0 && b0) = false) ∧ (1 < 4 → (a1 && b1) = false) ∧ (2 < 4 → (a2 && b2) = false) ∧ (3 < 4 → (a3 && b3) = false)) := Hid.intro ⟨fun _ => HM.out.1 (by omega), fun _ => HM.out.2.1 (by omega), fun _ => HM.out.2.2.1 (by omega), fun _ => by rw [h1]; rfl⟩
        rw [h1] at x3
        clear HM h1
        go_wp2
        go_roundw
        case rel => exact ⟨4, by omega, by go_num, by simp, HN⟩
        case measure => simp [intOf]
      · rcases Bool.eq_false_or_eq_true b3 with h2 | h2
        rotate_left
        · have HN : Hid ((0 < 4 → (a0 && b0) = false) ∧ (1 < 4 → (a1 && b1) = false) ∧ (2 < 4 → (a2 && b2) = false) ∧ (3 < 4 → (a3 && b3) = false)) := Hid.intro ⟨fun _ => HM.out.1 (by omega), fun _ => HM.out.2.1 (by omega), fun _ => HM.out.2.2.1 (by omega), fun _ => by rw [h2]; simp⟩
          rw [h1] at x3
          rw [h2] at y3
          clear HM h1 h2
          go_wp2
          go_roundw
          case rel => exact ⟨4, by omega, by go_num, by simp, HN⟩
          case measure => simp [intOf]
        · have HX : Hid (meetB a0 a1 a2 a3 b0 b1 b2 b3 = true) := Hid.intro (by unfold meetB; rw [h1, h2]; simp)
          rw [h1] at x3
          rw [h2] at y3
          clear HM h1 h2
          go_wp2
          go_ret
          exact ⟨by rw [HX.out]; rfl, HBB.out⟩
    · have hk4 : k = 0 := by omega
      subst hk4
      have HX : Hid (meetB a0 a1 a2 a3 b0 b1 b2 b3 = false) := Hid.intro (by unfold meetB; rw [HM.out.1 (by omega), HM.out.2.1 (by omega), HM.out.2.2.1 (by omega), HM.out.2.2.2 (by omega)]; rfl)
      clear HM
      go_wp2
      go_ret
      exact ⟨by rw [HX.out]; rfl, HBB.out⟩

/-- a row of rows: where it lies -/
theorem rows_at {w : World} {ps : Lst (Lst (Int × Int × Int × Int × Bool × (Lst Int) × (Lst Int)))} (h : yReqReqSS.rd w ps) (h3 : ps.l.length = 3) : ∃ bs os, ps.p = some ⟨bs, os, none⟩ := by
  obtain ⟨b, off, e, _⟩ := progs_at h (k := 0) (by omega)
  exact ⟨b, off, e⟩
theorem busOk_three {m : (Lst (Int × Int × Int × Bool))} {la : Lst Int} {ps : Lst (Lst (Int × Int × Int × Int × Bool × (Lst Int) × (Lst Int)))} (h : busOkP (yBusCfg.pl (m, la, ps)) = true) : ps.l.length = 3 := by
  have h1 := progs_three h
  have h2 : (yBusCfg.pl (m, la, ps)).2.2.length = ps.l.length := List.length_map ..
  omega
theorem slvs_eq {m : (Lst (Int × Int × Int × Bool))} {la : Lst Int} {ps : Lst (Lst (Int × Int × Int × Int × Bool × (Lst Int) × (Lst Int)))} {k : Nat} (hk : k < ps.l.length) : slvs (yBusCfg.pl (m, la, ps)) k = ps.l[k].l.map (fun q => reqSlaveZ ((yMapRangeS.pl m).map rngOf) (reqOf (yReqReq.pl q))) := by
  unfold slvs
  have e1 : (yBusCfg.pl (m, la, ps)).1 = yMapRangeS.pl m := rfl
  have e2 : (yBusCfg.pl (m, la, ps)).2.2.getD k [] = yReqReqS.pl ps.l[k] := by
    have : (yBusCfg.pl (m, la, ps)).2.2 = ps.l.map yReqReqS.pl := rfl
    rw [this, List.getD_eq_getElem?_getD, List.getElem?_map, List.getElem?_eq_getElem hk]
    rfl
  rw [e1, e2]
  show (((ps.l[k].l.map yReqReq.pl).map reqOf).map _) = _
  rw [List.map_map, List.map_map]
  rfl

/-- the stores of one, in the making -/
structure StoreSt (w : World) (cs : Array Value) (w1 wr : World) (b0 b1 b2 b3 : Bool) (xs : List Int) : Prop where
  bel : Below w.heap.size w wr
  A : wr.heap[w.heap.size]? = some (.cells cs 27 (0, 0))
  R : wr.heap[w.heap.size + 1]? = some (.cells #[.bool false, .bool false, .bool false, .bool false] 73 (0, 0))
  B : wr.heap[w.heap.size + 1 + 1]? = some (.cells #[.bool b0, .bool b1, .bool b2, .bool b3] 73 (0, 0))
  e : b0 = hasB xs 0 ∧ b1 = hasB xs 1 ∧ b2 = hasB xs 2 ∧ b3 = hasB xs 3

set_option maxRecDepth 100000 in
set_option maxHeartbeats 4000000 in
theorem busStores_any (hI : ReqSlaveC) (m : (Lst (Int × Int × Int × Bool))) (la : Lst Int) (bs os psc : Nat) (psl : List (Lst (Int × Int × Int × Int × Bool × (Lst Int) × (Lst Int)))) (n : Nat) (w : World) (h : yBusCfg.rd w (m, la, (⟨some ⟨bs, os, none⟩, psc, psl⟩ : Lst (Lst (Int × Int × Int × Int × Bool × (Lst Int) × (Lst Int)))))) (hok : busOkP (yBusCfg.pl (m, la, (⟨some ⟨bs, os, none⟩, psc, psl⟩ : Lst (Lst (Int × Int × Int × Int × Bool × (Lst Int) × (Lst Int)))))) = true) (hn : n < 3) :
    Calls Try.prog 43 #[.agg #[.slice m.p m.l.length m.c, .slice la.p la.l.length la.c, .slice (some ⟨bs, os, none⟩) psl.length psc], .int .i64 (n : Int)] w fun e w' => e = .returned (.agg #[.bool (hasB (slvs (yBusCfg.pl (m, la, (⟨some ⟨bs, os, none⟩, psc, psl⟩ : Lst (Lst (Int × Int × Int × Int × Bool × (Lst Int) × (Lst Int)))))) n) 0), .bool (hasB (slvs (yBusCfg.pl (m, la, (⟨some ⟨bs, os, none⟩, psc, psl⟩ : Lst (Lst (Int × Int × Int × Int × Bool × (Lst Int) × (Lst Int)))))) n) 1), .bool (hasB (slvs (yBusCfg.pl (m, la, (⟨some ⟨bs, os, none⟩, psc, psl⟩ : Lst (Lst (Int × Int × Int × Int × Bool × (Lst Int) × (Lst Int)))))) n) 2), .bool (hasB (slvs (yBusCfg.pl (m, la, (⟨some ⟨bs, os, none⟩, psc, psl⟩ : Lst (Lst (Int × Int × Int × Int × Bool × (Lst Int) × (Lst Int)))))) n) 3)]) ∧ Below w.heap.size w w' := by
  have h3 : psl.length = 3 := busOk_three hok
  have hin := slvs_in hok n
  rw [slvs_eq (by show n < psl.length; omega)] at hin ⊢
  have hR : yReqReqS.rd w psl[n] := (row_of h.2.2 rfl (by omega)).2.2
  have cN0 := (row_of h.2.2 rfl (k := n) (by omega)).2.1
  have hbs : bs < w.heap.size := (row_of h.2.2 rfl (k := n) (by omega)).1
  have HM := Hid.intro h.1
  have hbs1 : bs < w.heap.size + 1 := by omega
  have hbs2 : bs < w.heap.size + 1 + 1 := by omega
  have hnl : (n : Int) < (psl.length : Int) := by omega
  have hn0 : (0 : Int) ≤ (n : Int) := by omega
  have HIS := Hid.intro hI
  show Calls Try.prog 43 #[_, _] w fun e w' => e = .returned (.agg #[.bool (hasB (psl[n].l.map (fun q => reqSlaveZ ((yMapRangeS.pl m).map rngOf) (reqOf (yReqReq.pl q)))) 0), .bool (hasB (psl[n].l.map (fun q => reqSlaveZ ((yMapRangeS.pl m).map rngOf) (reqOf (yReqReq.pl q)))) 1), .bool (hasB (psl[n].l.map (fun q => reqSlaveZ ((yMapRangeS.pl m).map rngOf) (reqOf (yReqReq.pl q)))) 2), .bool (hasB (psl[n].l.map (fun q => reqSlaveZ ((yMapRangeS.pl m).map rngOf) (reqOf (yReqReq.pl q)))) 3)]) ∧ Below w.heap.size w w'
  generalize psl[n] = pn at hin hR cN0
  obtain ⟨pnp, cn, ln0⟩ := pn
  have hcn1 : ln0.length ≤ cn := hR.1
  have hcn2 : cn ≤ 9223372036854775807 := hR.2.1
  obtain ⟨xs, hxs⟩ : ∃ xs, xs = ln0.map (fun q => reqSlaveZ ((yMapRangeS.pl m).map rngOf) (reqOf (yReqReq.pl q))) := ⟨_, rfl⟩
  simp only at hin ⊢
  rw [← hxs] at hin ⊢
  have hxl : xs.length = ln0.length := by rw [hxs]; simp
  have HXS := Hid.intro hxs
  have HXL := Hid.intro hxl
  have HIN := Hid.intro hin
  have HRR := Hid.intro hR
  have hbl : ∀ o o' o'', Below w.heap.size w (((w.alloc o).alloc o').alloc o'') := fun o o' o'' => (((Below.refl _ w).alloc (Nat.le_refl _) o).alloc (by simp) o').alloc (by simp <;> omega) o''
  have HV : Hid (∀ b0 b1 b2 b3 : Bool, b0 = hasB xs 0 ∧ b1 = hasB xs 1 ∧ b2 = hasB xs 2 ∧ b3 = hasB xs 3 → (Ending.returned (.agg #[.bool b0, .bool b1, .bool b2, .bool b3]) : Ending) = .returned (.agg #[.bool (hasB xs 0), .bool (hasB xs 1), .bool (hasB xs 2), .bool (hasB xs 3)])) := Hid.intro (by rintro b0 b1 b2 b3 ⟨rfl, rfl, rfl, rfl⟩; rfl)
  clear h hok h3 hin hR hxs hxl hI
  go_enter Try.func43, Try.ntmps43
  have HS0 : Hid (StoreSt w #[.slice m.p m.l.length m.c, .slice la.p la.l.length la.c, .slice (some ⟨bs, os, none⟩) psl.length psc] w (((w.alloc (.cells #[.slice m.p m.l.length m.c, .slice la.p la.l.length la.c, .slice (some ⟨bs, os, none⟩) psl.length psc] 27)).alloc (.cells #[.bool false, .bool false, .bool false, .bool false] 73)).alloc (.cells #[.bool false, .bool false, .bool false, .bool false] 73)) false false false false (xs.take 0)) := Hid.intro ⟨hbl _ _ _, (Below.heap_alloc _ _ _ (by simp <;> omega)).trans ((Below.heap_alloc _ _ _ (by simp)).trans (nw_k _ rfl)), (Below.heap_alloc _ _ _ (by simp)).trans (nw_k _ (by simp)), nw_k _ (by simp), ⟨rfl, rfl, rfl, rfl⟩⟩
  go_wp2
  go_loopw [14] (fun i wr => ∃ (k : Nat) (b0 b1 b2 b3 : Bool), k ≤ ln0.length ∧ i = .int .i64 k ∧ Hid (StoreSt w #[.slice m.p m.l.length m.c, .slice la.p la.l.length la.c, .slice (some ⟨bs, os, none⟩) psl.length psc] w wr b0 b1 b2 b3 (xs.take k))) (fun i _ => ln0.length - (intOf i).toNat)
  case atStart => exact ⟨0, false, false, false, false, Nat.zero_le _, rfl, HS0⟩
  case round =>
    clear HS0 hbl
    obtain ⟨k, b0, b1, b2, b3, hk, rfl, HS⟩ := hrel
    by_cases hlt : k < ln0.length
    · have hk0 : (0 : Int) ≤ (k : Int) := by omega
      have hk1 : (k : Int) < (ln0.length : Int) := by omega
      have hrd := yReqReqS_law.rd_blw HRR.out HS.out.bel
      obtain ⟨bn, on, hpn, hbn, hcq, hqr⟩ := reqs_at hrd hlt
      simp only at hpn
      subst hpn
      have hxk : k < xs.length := by have := HXL.out; omega
      have hxe : xs[k] = reqSlaveZ ((yMapRangeS.pl m).map rngOf) (reqOf (yReqReq.pl ln0[k])) := by
        have e : xs[k]? = (ln0.map (fun q => reqSlaveZ ((yMapRangeS.pl m).map rngOf) (reqOf (yReqReq.pl q))))[k]? := by rw [HXS.out]
        simpa [hxk, hlt] using e
      have hir := HIN.out _ (List.getElem_mem hxk)
      have HST := Hid.intro (fun j => hasB_step hxk j)
      have hmr := yMapRangeS_law.rd_blw HM.out HS.out.bel
      simp only at hcq hqr
      generalize ln0[k] = q at hcq hqr hxe
      obtain ⟨q_0, q_1, q_2, q_3, q_4, q_5, q_6⟩ := q
      have HCS : Hid (∀ W, Below wr.heap.size wr W → Calls Try.prog 18 #[.slice m.p m.l.length m.c, .agg #[.int .i64 q_0, .int .i64 q_1, .int .i64 q_2, .int .i64 q_3, .bool q_4, .slice q_5.p q_5.l.length q_5.c, .slice q_6.p q_6.l.length q_6.c]] W fun e w' => e = .returned (.int .i64 xs[k]) ∧ Below W.heap.size W w') := Hid.intro (fun W hW => by rw [hxe]; exact slv_kinds HIS.out m (q_0, q_1, q_2, q_3, q_4, q_5, q_6) W (yMapRangeS_law.rd_blw hmr hW) (yReqReq_law.rd_blw hqr hW))
      generalize xs[k] = x at hir HST HCS
      have cq0 : wr.cell? ⟨bn, on + k * 7, none⟩ = some (.int .i64 q_0) := hcq 0 _ rfl
      have cq1 : wr.cell? ⟨bn, on + k * 7 + 1, none⟩ = some (.int .i64 q_1) := hcq 1 _ rfl
      have cq2 : wr.cell? ⟨bn, on + k * 7 + 2, none⟩ = some (.int .i64 q_2) := hcq 2 _ rfl
      have cq3 : wr.cell? ⟨bn, on + k * 7 + 3, none⟩ = some (.int .i64 q_3) := hcq 3 _ rfl
      have cq4 : wr.cell? ⟨bn, on + k * 7 + 4, none⟩ = some (.bool q_4) := hcq 4 _ rfl
      have cq5 : wr.cell? ⟨bn, on + k * 7 + 5, none⟩ = some (.slice q_5.p q_5.l.length q_5.c) := hcq 5 _ rfl
      have cq6 : wr.cell? ⟨bn, on + k * 7 + 6, none⟩ = some (.slice q_6.p q_6.l.length q_6.c) := hcq 6 _ rfl
      have cA0 : wr.cell? ⟨w.heap.size, 0, none⟩ = some (.slice m.p m.l.length m.c) := heap_cell HS.out.A 0
      have hlA : w.heap.size < wr.heap.size := heap_lt HS.out.A
      have HQC := Hid.intro (show wr.heap.size + 0 = wr.heap.size from rfl)
      clear hcq hqr hxe hmr hrd hxk
      have gr : Below wr.heap.size wr (wr.alloc (.cells #[.int .i64 q_0, .int .i64 q_1, .int .i64 q_2, .int .i64 q_3, .bool q_4, .slice q_5.p q_5.l.length q_5.c, .slice q_6.p q_6.l.length q_6.c] 40)) := (Below.refl _ wr).alloc (Nat.le_refl _) _
      go_wp2_with fail
      refine (HCS.out _ gr).mono ?_
      rintro e w2 ⟨rfl, hb⟩
      have hb2 := gr.trans (hb.mono gr.size)
      have bB := (hb2.block _ (heap_lt HS.out.B)).trans HS.out.B
      have y0 : w2.cell? ⟨w.heap.size + 1 + 1, 0, none⟩ = some (.bool b0) := heap_cell bB 0
      have y1 : w2.cell? ⟨w.heap.size + 1 + 1, 1, none⟩ = some (.bool b1) := heap_cell bB 1
      have y2 : w2.cell? ⟨w.heap.size + 1 + 1, 2, none⟩ = some (.bool b2) := heap_cell bB 2
      have y3 : w2.cell? ⟨w.heap.size + 1 + 1, 3, none⟩ = some (.bool b3) := heap_cell bB 3
      have f0 := heap_free bB 0
      have f1 := heap_free bB 1
      have f2 := heap_free bB 2
      have f3 := heap_free bB 3
      have HS2 : ∀ i, i < 4 → ∀ (c0 c1 c2 c3 : Bool), (#[.bool b0, .bool b1, .bool b2, .bool b3] : Array Value).setIfInBounds i (.bool true) = #[.bool c0, .bool c1, .bool c2, .bool c3] → (c0 = hasB (xs.take (k + 1)) 0 ∧ c1 = hasB (xs.take (k + 1)) 1 ∧ c2 = hasB (xs.take (k + 1)) 2 ∧ c3 = hasB (xs.take (k + 1)) 3) → StoreSt w #[.slice m.p m.l.length m.c, .slice la.p la.l.length la.c, .slice (some ⟨bs, os, none⟩) psl.length psc] w (w2.setCell ⟨w.heap.size + 1 + 1, i, none⟩ (.bool true)) c0 c1 c2 c3 (xs.take (k + 1)) := fun i hi c0 c1 c2 c3 he hc =>
        ⟨(HS.out.bel.trans (hb2.mono HS.out.bel.size)).setCell (p := ⟨w.heap.size + 1 + 1, i, none⟩) (by show w.heap.size ≤ w.heap.size + 1 + 1; omega) _, (heap_set_ne (by omega)).trans ((hb2.block _ (heap_lt HS.out.A)).trans HS.out.A), (heap_set_ne (by omega)).trans ((hb2.block _ (heap_lt HS.out.R)).trans HS.out.R), by rw [heap_set bB, he], hc⟩
      have H2 := Hid.intro HS2
      have HE4 := Hid.intro HS.out.e
      clear HS2 bB hb hb2 gr HCS HQC cA0 hlA cq0 cq1 cq2 cq3 cq4 cq5 cq6 HS
      have hx : x = 0 ∨ x = 1 ∨ x = 2 ∨ x = 3 := by omega
      clear hir
      rcases hx with rfl | rfl | rfl | rfl
      · have HN := Hid.intro (H2.out 0 (by omega) true b1 b2 b3 rfl ⟨by rw [HST.out 0]; simp, by rw [HST.out 1, ← HE4.out.2.1]; simp, by rw [HST.out 2, ← HE4.out.2.2.1]; simp, by rw [HST.out 3, ← HE4.out.2.2.2]; simp⟩)
        clear H2 HE4 HST
        go_wp2
        go_roundw
        case rel => exact ⟨k + 1, true, b1, b2, b3, by omega, by go_num, HN⟩
        case measure => simp [intOf]; omega
      · have HN := Hid.intro (H2.out 1 (by omega) b0 true b2 b3 rfl ⟨by rw [HST.out 0, ← HE4.out.1]; simp, by rw [HST.out 1]; simp, by rw [HST.out 2, ← HE4.out.2.2.1]; simp, by rw [HST.out 3, ← HE4.out.2.2.2]; simp⟩)
        clear H2 HE4 HST
        go_wp2
        go_roundw
        case rel => exact ⟨k + 1, b0, true, b2, b3, by omega, by go_num, HN⟩
        case measure => simp [intOf]; omega
      · have HN := Hid.intro (H2.out 2 (by omega) b0 b1 true b3 rfl ⟨by rw [HST.out 0, ← HE4.out.1]; simp, by rw [HST.out 1, ← HE4.out.2.1]; simp, by rw [HST.out 2]; simp, by rw [HST.out 3, ← HE4.out.2.2.2]; simp⟩)
        clear H2 HE4 HST
        go_wp2
        go_roundw
        case rel => exact ⟨k + 1, b0, b1, true, b3, by omega, by go_num, HN⟩
        case measure => simp [intOf]; omega
      · have HN := Hid.intro (H2.out 3 (by omega) b0 b1 b2 true rfl ⟨by rw [HST.out 0, ← HE4.out.1]; simp, by rw [HST.out 1, ← HE4.out.2.1]; simp, by rw [HST.out 2, ← HE4.out.2.2.1]; simp, by rw [HST.out 3]; simp⟩)
        clear H2 HE4 HST
        go_wp2
        go_roundw
        case rel => exact ⟨k + 1, b0, b1, b2, true, by omega, by go_num, HN⟩
        case measure => simp [intOf]; omega
    · have hk' : k = ln0.length := by omega
      have hxt : xs.take k = xs := by rw [List.take_of_length_le (by have := HXL.out; omega)]
      have HB := Hid.intro HS.out.bel
      have HEE := Hid.intro (by have := HS.out.e; rw [hxt] at this; exact this)
      have bB := HS.out.B
      have bR := HS.out.R
      have y0 : wr.cell? ⟨w.heap.size + 1 + 1, 0, none⟩ = some (.bool b0) := heap_cell bB 0
      have y1 : wr.cell? ⟨w.heap.size + 1 + 1, 1, none⟩ = some (.bool b1) := heap_cell bB 1
      have y2 : wr.cell? ⟨w.heap.size + 1 + 1, 2, none⟩ = some (.bool b2) := heap_cell bB 2
      have y3 : wr.cell? ⟨w.heap.size + 1 + 1, 3, none⟩ = some (.bool b3) := heap_cell bB 3
      have r0 : wr.cell? ⟨w.heap.size + 1, 0, none⟩ = some (.bool false) := heap_cell bR 0
      have r1 : wr.cell? ⟨w.heap.size + 1, 1, none⟩ = some (.bool false) := heap_cell bR 1
      have r2 : wr.cell? ⟨w.heap.size + 1, 2, none⟩ = some (.bool false) := heap_cell bR 2
      have r3 : wr.cell? ⟨w.heap.size + 1, 3, none⟩ = some (.bool false) := heap_cell bR 3
      have g0 := heap_free bR 0
      have g1 := heap_free bR 1
      have g2 := heap_free bR 2
      have g3 := heap_free bR 3
      have hf := heap_set (heap_set (heap_set (heap_set bR 0 (.bool b0)) 1 (.bool b1)) 2 (.bool b2)) 3 (.bool b3)
      have s0 := heap_cell hf 0
      have s1 := heap_cell hf 1
      have s2 := heap_cell hf 2
      have s3 := heap_cell hf 3
      simp at s0 s1 s2 s3
      have HBE : Hid (Below w.heap.size w ((((wr.setCell ⟨w.heap.size + 1, 0, none⟩ (.bool b0)).setCell ⟨w.heap.size + 1, 1, none⟩ (.bool b1)).setCell ⟨w.heap.size + 1, 2, none⟩ (.bool b2)).setCell ⟨w.heap.size + 1, 3, none⟩ (.bool b3))) := Hid.intro ((((HB.out.setCell (p := ⟨w.heap.size + 1, 0, none⟩) (by simp) _).setCell (p := ⟨w.heap.size + 1, 1, none⟩) (by simp) _).setCell (p := ⟨w.heap.size + 1, 2, none⟩) (by simp) _).setCell (p := ⟨w.heap.size + 1, 3, none⟩) (by simp) _)
      clear hf bB bR HS hxt
      go_wp2
      refine bodyPost_ret (v := .agg #[.bool b0, .bool b1, .bool b2, .bool b3]) (by simp [results, Try.results43, go_sem, s0, s1, s2, s3]) rfl ⟨HV.out _ _ _ _ HEE.out, HBE.out⟩

set_option maxRecDepth 100000 in
set_option maxHeartbeats 8000000 in
theorem impl_BusApart (hI : ReqOkC) (hS : ReqSlaveC) (c : ((Lst (Int × Int × Int × Bool)) × (Lst Int) × (Lst (Lst (Int × Int × Int × Int × Bool × (Lst Int) × (Lst Int)))))) (who : Int) (w : World) (h : yBusCfg.rd w c) :
    Calls Try.prog 15 #[yBusCfg.val c, .int .i64 who] w fun e w' => e = .returned (.bool (busApartP (yBusCfg.pl c) who)) ∧ Below w.heap.size w w' := by
  obtain ⟨m, la, ps⟩ := c
  have hbl : ∀ o, Below w.heap.size w (w.alloc o) := fun o => (Below.refl _ w).alloc (Nat.le_refl _) o
  have HR := Hid.intro h
  obtain ⟨z, hz⟩ : ∃ z, z = yBusCfg.pl (m, la, ps) := ⟨_, rfl⟩
  have HBO : Hid (∀ W, Below w.heap.size w W → Calls Try.prog 8 #[.agg #[.slice m.p m.l.length m.c, .slice la.p la.l.length la.c, .slice ps.p ps.l.length ps.c]] W fun e w' => e = .returned (.bool (busOkP z)) ∧ Below W.heap.size W w') := Hid.intro (fun W hW => by rw [hz]; exact impl_BusOk hI (m, la, ps) W (yBusCfg_law.rd_blw h hW))
  have HZ := Hid.intro hz
  have HIS := Hid.intro hS
  rw [← hz]
  clear h hz hI hS
  show Calls Try.prog 15 #[.agg #[.slice m.p m.l.length m.c, .slice la.p la.l.length la.c, .slice ps.p ps.l.length ps.c], .int .i64 who] w _
  go_enter Try.func15, Try.ntmps15
  go_wp2_with fail
  refine (HBO.out _ (hbl _)).mono ?_
  rintro e w1 ⟨rfl, hb⟩
  have bel : Below w.heap.size w w1 := (hbl _).trans (hb.mono (hbl _).size)
  have bA : w1.heap[w.heap.size]? = some (.cells #[.slice m.p m.l.length m.c, .slice la.p la.l.length la.c, .slice ps.p ps.l.length ps.c] 27 (0, 0)) := (hb.block _ (by simp)).trans (nw_k _ rfl)
  have BEL := Hid.intro bel
  clear hb HBO hbl
  cases hok : busOkP z
  · have HE : Hid (busApartP z who = false) := Hid.intro (by unfold busApartP; rw [hok]; rfl)
    go_wp2
    go_ret
    exact ⟨by rw [HE.out]; rfl, BEL.out⟩
  have H30 : Hid (ps.l.length = 3) := Hid.intro (by rw [HZ.out] at hok; exact busOk_three hok)
  cases hin : inB who 0 2
  · have HE : Hid (busApartP z who = false) := Hid.intro (by unfold busApartP; rw [hok, hin]; rfl)
    go_wp2_with (go_at_call 38; refine (whoOk_any _ _).mono ?_; rintro e w' ⟨rfl, hw⟩; replace hw := hw.symm; subst hw)
    all_goals go_ret
    all_goals exact ⟨by rw [HE.out]; rfl, BEL.out⟩
  have hwho : 0 ≤ who ∧ who ≤ 2 := by simpa [inB] using hin
  obtain ⟨n, rfl⟩ : ∃ n : Nat, who = (n : Int) := ⟨who.toNat, by omega⟩
  have HE : Hid (busApartP z (n : Int) = apartB z n) := Hid.intro (by unfold busApartP; rw [hok, hin]; rfl)
  have hn3 : n < 3 := by omega
  obtain ⟨bs, os, hp⟩ : ∃ bs os, ps.p = some ⟨bs, os, none⟩ := rows_at (yBusCfg_law.rd_blw HR.out bel).2.2 H30.out
  obtain ⟨psp, psc, psl⟩ := ps
  simp only at hp bA ⊢
  subst hp
  have HBS : Hid (∀ W, Below w1.heap.size w1 W → ∀ k : Nat, k < 3 → Calls Try.prog 43 #[.agg #[.slice m.p m.l.length m.c, .slice la.p la.l.length la.c, .slice (some ⟨bs, os, none⟩) psl.length psc], .int .i64 (k : Int)] W fun e w' => e = .returned (.agg #[.bool (hasB (slvs z k) 0), .bool (hasB (slvs z k) 1), .bool (hasB (slvs z k) 2), .bool (hasB (slvs z k) 3)]) ∧ Below W.heap.size W w') := Hid.intro (fun W hW k hk => by
    have h := busStores_any HIS.out m la bs os psc psl k W (yBusCfg_law.rd_blw HR.out (bel.trans (hW.mono bel.size))) (by rw [← HZ.out]; exact hok) hk
    rw [← HZ.out] at h
    exact h)
  have HIN : Hid (∀ x ∈ slvs z n, 0 ≤ x ∧ x ≤ 3) := Hid.intro (slvs_in hok n)
  obtain ⟨A, hA⟩ : ∃ A, A = w.heap.size := ⟨_, rfl⟩
  rw [← hA] at bA ⊢
  have hlA := heap_lt bA
  have cA0 : w1.cell? ⟨A, 0, none⟩ = some (.slice m.p m.l.length m.c) := heap_cell bA 0
  have cA1 : w1.cell? ⟨A, 1, none⟩ = some (.slice la.p la.l.length la.c) := heap_cell bA 1
  have cA2 : w1.cell? ⟨A, 2, none⟩ = some (.slice (some ⟨bs, os, none⟩) psl.length psc) := heap_cell bA 2
  have HBA := Hid.intro bA
  clear bA hA bel hwho H30
  obtain ⟨a0, ha0⟩ : ∃ a, a = hasB (slvs z n) 0 := ⟨_, rfl⟩
  obtain ⟨a1, ha1⟩ : ∃ a, a = hasB (slvs z n) 1 := ⟨_, rfl⟩
  obtain ⟨a2, ha2⟩ : ∃ a, a = hasB (slvs z n) 2 := ⟨_, rfl⟩
  obtain ⟨a3, ha3⟩ : ∃ a, a = hasB (slvs z n) 3 := ⟨_, rfl⟩
  have HA := Hid.intro (And.intro ha0 (And.intro ha1 (And.intro ha2 ha3)))
  have HB1 := HBS.out w1 (Below.refl _ _) n hn3
  rw [← ha0, ← ha1, ← ha2, ← ha3] at HB1
  have HBN := Hid.intro HB1
  clear ha0 ha1 ha2 ha3 HB1
  go_wp2_with (first | (go_at_call 38; refine (whoOk_any _ _).mono ?_; rintro e w' ⟨rfl, hw⟩; replace hw := hw.symm; subst hw) | fail)
  refine HBN.out.mono ?_
  rintro e w2 ⟨rfl, hb⟩
  have HB2 := Hid.intro hb
  have bA2 := (hb.block _ (heap_lt HBA.out)).trans HBA.out
  have hlA2 := heap_lt bA2
  have gr : Below w2.heap.size w2 (w2.alloc (.cells #[.bool a0, .bool a1, .bool a2, .bool a3] 73)) := (Below.refl _ w2).alloc (Nat.le_refl _) _
  obtain ⟨W3, hW3⟩ : ∃ W3, W3 = w2.alloc (.cells #[.bool a0, .bool a1, .bool a2, .bool a3] 73) := ⟨_, rfl⟩
  obtain ⟨B, hB⟩ : ∃ B, B = w2.heap.size := ⟨_, rfl⟩
  have bB : W3.heap[B]? = some (.cells #[.bool a0, .bool a1, .bool a2, .bool a3] 73 (0, 0)) := by rw [hW3, hB]; exact nw_k _ rfl
  rw [← hW3] at gr
  have HB3 : Hid (Below w1.heap.size w1 W3) := Hid.intro (hb.trans (gr.mono hb.size))
  have HBB := Hid.intro bB
  have HBA3 := Hid.intro ((gr.block _ hlA2).trans bA2)
  have HW3 := Hid.intro hW3
  have HBE := Hid.intro hB
  clear hb gr bA2 bB hlA2 hlA cA0 cA1 cA2 HBN HB2 hW3 hB
  go_wp2
  rw [← HW3.out, ← HBE.out]
  clear HW3 HBE
  go_loopw [18] (fun i wr => ∃ k : Nat, k ≤ 3 ∧ i = .int .i64 k ∧ Below W3.heap.size W3 wr ∧ Hid (([0, 1, 2].take k).all (apartK z n) = true)) (fun i _ => 3 - (intOf i).toNat)
  case atStart => exact ⟨0, Nat.zero_le _, rfl, Below.refl _ _, Hid.intro rfl⟩
  case round =>
    obtain ⟨k, hk, rfl, hbl, HF⟩ := hrel
    by_cases hlt : k < 3
    rotate_left
    · have HX : Hid (apartB z n = true) := Hid.intro (all_end (l := [0, 1, 2]) (k := k) (by simp; omega) HF.out)
      have hk3 : ¬ ((k : Int) < 3) := by omega
      have HBL := Hid.intro hbl
      clear hin hok HF hbl
      go_wp2
      go_ret
      exact ⟨by rw [HE.out, HX.out]; rfl, BEL.out.trans ((HB3.out.trans (HBL.out.mono HB3.out.size)).mono BEL.out.size)⟩
    have hk0 : (0 : Int) ≤ (k : Int) := by omega
    have hk1 : (k : Int) < 3 := by omega
    have hkk : [0, 1, 2][k]'(by simpa using hlt) = k := by
      rcases k with _ | _ | _ | k <;> first | rfl | omega
    by_cases hkn : k = n
    · subst hkn
      have HX : Hid (([0, 1, 2].take (k + 1)).all (apartK z k) = true) := Hid.intro (all_step (by simpa using hlt) HF.out (by rw [hkk]; simp [apartK]))
      clear HF hkk
      have hd : decide ((k : Int) = (k : Int)) = true := by simp
      go_wp2_with fail
      go_quiet (fail)
      go_wp2
      go_roundw
      case rel => exact ⟨k + 1, by omega, by go_num, below_drewN hbl nq, HX⟩
      case measure => simp [intOf]; omega
    have hki : ¬ ((k : Int) = (n : Int)) := by omega
    have hkb : ((k : Int) == (n : Int)) = false := by simpa using hki
    have HKK := Hid.intro hkk
    have hbA := (hbl.block _ (heap_lt HBA3.out)).trans HBA3.out
    have hbB := (hbl.block _ (heap_lt HBB.out)).trans HBB.out
    have hlA := heap_lt hbA
    have hlB := heap_lt hbB
    have cA0 : wr.cell? ⟨A, 0, none⟩ = some (.slice m.p m.l.length m.c) := heap_cell hbA 0
    have cA1 : wr.cell? ⟨A, 1, none⟩ = some (.slice la.p la.l.length la.c) := heap_cell hbA 1
    have cA2 : wr.cell? ⟨A, 2, none⟩ = some (.slice (some ⟨bs, os, none⟩) psl.length psc) := heap_cell hbA 2
    have cB0 : wr.cell? ⟨B, 0, none⟩ = some (.bool a0) := heap_cell hbB 0
    have cB1 : wr.cell? ⟨B, 1, none⟩ = some (.bool a1) := heap_cell hbB 1
    have cB2 : wr.cell? ⟨B, 2, none⟩ = some (.bool a2) := heap_cell hbB 2
    have cB3 : wr.cell? ⟨B, 3, none⟩ = some (.bool a3) := heap_cell hbB 3
    have H1 := HBS.out wr (HB3.out.trans (hbl.mono HB3.out.size))
    obtain ⟨b0, hb0⟩ : ∃ a, a = hasB (slvs z k) 0 := ⟨_, rfl⟩
    obtain ⟨b1, hb1⟩ : ∃ a, a = hasB (slvs z k) 1 := ⟨_, rfl⟩
    obtain ⟨b2, hb2⟩ : ∃ a, a = hasB (slvs z k) 2 := ⟨_, rfl⟩
    obtain ⟨b3, hb3⟩ : ∃ a, a = hasB (slvs z k) 3 := ⟨_, rfl⟩
    have HKS : Hid (∀ W, Below wr.heap.size wr W → Calls Try.prog 43 #[.agg #[.slice m.p m.l.length m.c, .slice la.p la.l.length la.c, .slice (some ⟨bs, os, none⟩) psl.length psc], .int .i64 (k : Int)] W fun e w' => e = .returned (.agg #[.bool b0, .bool b1, .bool b2, .bool b3]) ∧ Below W.heap.size W w') := Hid.intro (fun W hW => by
      have h := HBS.out W ((HB3.out.trans (hbl.mono HB3.out.size)).trans (hW.mono (HB3.out.trans (hbl.mono HB3.out.size)).size)) k hlt
      rw [← hb0, ← hb1, ← hb2, ← hb3] at h
      exact h)
    have HME : Hid (meetB a0 a1 a2 a3 b0 b1 b2 b3 = !((slvs z k).all (fun y => (slvs z n).all (fun x => !(y == x))))) := Hid.intro (by
      obtain ⟨e0, e1, e2, e3⟩ := HA.out
      rw [e0, e1, e2, e3, hb0, hb1, hb2, hb3]
      exact meet_iff HIN.out)
    have HBL := Hid.intro hbl
    clear hbA hbB hb0 hb1 hb2 hb3 H1 hkk hbl
    go_wp2_with fail
    refine wp_region_typed (by kernel_rfl) Gr (fun _ W => Below wr.heap.size wr W)
      (tab [(21, kIs (.int .i64 (k : Int))), (22, kIs (.int .i64 (n : Int))), (23, kIs (.bool true)), (24, kIs (.bool true)), (25, kIs (.agg #[.bool a0, .bool a1, .bool a2, .bool a3])), (26, kIs (.agg #[.slice m.p m.l.length m.c, .slice la.p la.l.length la.c, .slice (some ⟨bs, os, none⟩) psl.length psc])), (27, kIs (.int .i64 (k : Int))), (28, kIs (.agg #[.bool b0, .bool b1, .bool b2, .bool b3])), (29, kIs (.bool (meetB a0 a1 a2 a3 b0 b1 b2 b3))), (30, kIs (.bool (meetB a0 a1 a2 a3 b0 b1 b2 b3)))])
      [21, 22, 23, 24, 25, 26, 27, 28, 29, 30] (by kernel_rfl) (by kernel_rfl) ?_ ?_ ?_ ?_
    · refine tabR_stable ?_
      intro x hx
      simp only [List.mem_cons, List.not_mem_nil, or_false] at hx
      rcases hx with rfl | rfl | rfl | rfl | rfl | rfl | rfl | rfl | rfl | rfl
      all_goals intro w w' v hr hv
      all_goals first | exact hv
    · exact (Below.refl _ _).drew
    · refine ops_cons (gd rfl <| tx_pure rfl rfl (fun _ _ h => h) Gr.refl (fun ix ρ W hat hW => ?_)) ?_
      · have e0 := hat.out 6 (by kernel_rfl)
        simp [Act.eval] at e0
        simp only [execOp, e0]; go_simp
      refine ops_cons (gd rfl <| tx_pure rfl rfl (fun _ _ h => h) Gr.refl (fun ix ρ W hat hW => ?_)) ?_
      · have e0 := hat.out 1 (by kernel_rfl)
        simp [Act.eval] at e0
        simp only [execOp, e0]; go_simp
      refine ops_cons (gd rfl <| tx_pure rfl rfl (fun _ _ h => h) Gr.refl (fun ix ρ W hat hW => ?_)) ?_
      · have hc := hat.con
        have e0 : ρ (.tmp 21) = _ := hat.dep 21 (by kernel_rfl)
        have e1 : ρ (.tmp 22) = _ := hat.dep 22 (by kernel_rfl)
        simp only [execOp, e0, e1]; go_simp
      refine ops_cons (gd rfl <| tx_pure rfl rfl (fun _ _ h => h) Gr.refl (fun ix ρ W hat hW => ?_)) ?_
      · have e0 : ρ (.tmp 23) = _ := hat.dep 23 (by kernel_rfl)
        simp only [execOp, e0]; go_simp
      refine ops_cons (gdG 3 true rfl _ rfl 24 rfl rfl (by kernel_rfl) <| tx_pure rfl rfl (fun _ _ h => h) Gr.refl (fun ix ρ W hat hW => ?_)) ?_
      · have e0 := hat.out 5 (by kernel_rfl)
        simp [Act.eval] at e0
        have c0 : W.cell? ⟨B, 0, none⟩ = some (.bool a0) := (hW.cell (p := ⟨B, 0, none⟩) hlB).trans cB0
        have c1 : W.cell? ⟨B, 1, none⟩ = some (.bool a1) := (hW.cell (p := ⟨B, 1, none⟩) hlB).trans cB1
        have c2 : W.cell? ⟨B, 2, none⟩ = some (.bool a2) := (hW.cell (p := ⟨B, 2, none⟩) hlB).trans cB2
        have c3 : W.cell? ⟨B, 3, none⟩ = some (.bool a3) := (hW.cell (p := ⟨B, 3, none⟩) hlB).trans cB3
        simp only [execOp, e0]; go_simp
      refine ops_cons (gdG 3 true rfl _ rfl 24 rfl rfl (by kernel_rfl) <| tx_pure rfl rfl (fun _ _ h => h) Gr.refl (fun ix ρ W hat hW => ?_)) ?_
      · have e0 := hat.out 2 (by kernel_rfl)
        simp [Act.eval] at e0
        have c0 : W.cell? ⟨A, 0, none⟩ = some (.slice m.p m.l.length m.c) := (hW.cell (p := ⟨A, 0, none⟩) hlA).trans cA0
        have c1 : W.cell? ⟨A, 1, none⟩ = some (.slice la.p la.l.length la.c) := (hW.cell (p := ⟨A, 1, none⟩) hlA).trans cA1
        have c2 : W.cell? ⟨A, 2, none⟩ = some (.slice (some ⟨bs, os, none⟩) psl.length psc) := (hW.cell (p := ⟨A, 2, none⟩) hlA).trans cA2
        simp only [execOp, e0]; go_simp
      refine ops_cons (gdG 3 true rfl _ rfl 24 rfl rfl (by kernel_rfl) <| tx_pure rfl rfl (fun _ _ h => h) Gr.refl (fun ix ρ W hat hW => ?_)) ?_
      · have e0 := hat.out 6 (by kernel_rfl)
        simp [Act.eval] at e0
        simp only [execOp, e0]; go_simp
      refine ops_cons (gdG 3 true rfl _ rfl 24 rfl rfl (by kernel_rfl) <| tx_call rfl (fun ix ρ W _ hat hW => ?_)) ?_
      · have hf := hat.fn
        have e0 : ρ (.tmp 26) = _ := hat.dep 26 (by kernel_rfl)
        have e1 : ρ (.tmp 27) = _ := hat.dep 27 (by kernel_rfl)
        refine ⟨43, #[.agg #[.slice m.p m.l.length m.c, .slice la.p la.l.length la.c, .slice (some ⟨bs, os, none⟩) psl.length psc], .int .i64 (k : Int)], by simp only [execOp]; go_simp, ?_⟩
        refine (HKS.out W hW).mono ?_
        rintro e W' ⟨rfl, hb⟩
        exact ⟨_, rfl, hW.trans (hb.mono hW.size), hb, rfl⟩
      refine ops_cons (gdG 3 true rfl _ rfl 24 rfl rfl (by kernel_rfl) <| tx_call rfl (fun ix ρ W _ hat hW => ?_)) ?_
      · have hf := hat.fn
        have e0 : ρ (.tmp 25) = _ := hat.dep 25 (by kernel_rfl)
        have e1 : ρ (.tmp 28) = _ := hat.dep 28 (by kernel_rfl)
        refine ⟨44, #[.agg #[.bool a0, .bool a1, .bool a2, .bool a3], .agg #[.bool b0, .bool b1, .bool b2, .bool b3]], by simp only [execOp]; go_simp, ?_⟩
        refine (busStoresMeet_any a0 a1 a2 a3 b0 b1 b2 b3 W).mono ?_
        rintro e W' ⟨rfl, hb⟩
        exact ⟨_, rfl, hW.trans (hb.mono hW.size), hb, rfl⟩
      refine ops_cons (gd rfl <| tx_pure rfl rfl (fun _ _ h => h) Gr.refl (fun ix ρ W hat hW => ?_)) ?_
      · have hc := hat.con
        have e0 : ρ (.tmp 24) = _ := hat.dep 24 (by kernel_rfl)
        have e1 : ρ (.tmp 29) = _ := hat.dep 29 (by kernel_rfl)
        simp only [execOp, e0, e1]; go_simp
      exact ops_nil
    intro f w9 hb hf
    have ee30 : f 30 = .bool (meetB a0 a1 a2 a3 b0 b1 b2 b3) := hf 30 (by simp)
    clear hf
    simp only [fill, ee30]
    go_simp
    clear ee30
    obtain ⟨mt, hmt⟩ : ∃ b, b = meetB a0 a1 a2 a3 b0 b1 b2 b3 := ⟨_, rfl⟩
    rw [← hmt] at HME ⊢
    have HB9 := Hid.intro (HBL.out.trans (hb.mono HBL.out.size))
    clear hmt hb HBL cB0 cB1 cB2 cB3 cA0 cA1 cA2 hlA hlB
    cases mt
    · have HX : Hid (([0, 1, 2].take (k + 1)).all (apartK z n) = true) := Hid.intro (all_step (by simpa using hlt) HF.out (by
        rw [HKK.out]; unfold apartK
        have := HME.out
        cases h : (slvs z k).all (fun y => (slvs z n).all (fun x => !(y == x)))
        · rw [h] at this; cases this
        · simp))
      clear HF HKK HME HKS
      go_wp2
      go_roundw
      case rel => exact ⟨k + 1, by omega, by go_num, HB9.out, HX⟩
      case measure => simp [intOf]; omega
    · have HX : Hid (apartB z n = false) := Hid.intro (all_hit (l := [0, 1, 2]) (k := k) (by simpa using hlt) (by
        rw [HKK.out]; unfold apartK
        have := HME.out
        cases h : (slvs z k).all (fun y => (slvs z n).all (fun x => !(y == x)))
        · simp [hkn]
        · rw [h] at this; cases this))
      clear HF HKK HME HKS
      go_wp2
      go_ret
      exact ⟨by rw [HE.out, HX.out]; rfl, BEL.out.trans ((HB3.out.trans (HB9.out.mono HB3.out.size)).mono BEL.out.size)⟩

end Go.Proofs.Ytlifkfemdknndaa
