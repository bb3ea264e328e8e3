/-
  The law FnReqOk, walked, by what ReqOk of the program answers.
-/
import Derived.Test.YtdjmjdljgdagcaaProg
import Derived.Test.YtdjmjdljgdagcaaDrawReqB
import Derived.Test.YtdjmjdljgdagcaaAppS
import Derived.Test.YtdjmjdljgdagcaaCrOk
import Derived.Test.YtdjmjdljgdagcaaCtrQ
namespace Go.Proofs.Ytdjmjdljgdagcaa
open Go.RowKit
set_option linter.unusedSimpArgs false
set_option linter.unusedVariables false

theorem new_at {w : World} {n : Nat} (o : Obj) (h : n = w.heap.size) : (w.alloc o).heap[n]? = some o := by
  subst h; show (w.heap.push _)[w.heap.size]? = _; simp

theorem reqOk_parts {r : Req} (h : reqOkB r = true) : (r.id = 0 ∨ r.id = 1) ∧ adrOkB r.addr r.many r.wrap = true ∧
    ((r.kind = 1 ∧ r.data.length = 0 ∧ r.lanes.length = 0) ∨ (r.kind = 2 ∧ (r.data.length : Int) = r.many ∧ (r.lanes.length : Int) = r.many) ∨ (r.kind = 3 ∧ r.many = 1 ∧ r.data.length = 0 ∧ r.lanes.length = 0) ∨ (r.kind = 4 ∧ r.many = 1 ∧ r.data.length = 1 ∧ r.lanes.length = 1)) := by
  obtain ⟨id, kind, addr, many, wrap, data, lanes⟩ := r
  simp only [reqOkB, reqHeadB, reqOneB, Bool.and_eq_true, inB, decide_eq_true_eq] at h
  obtain ⟨⟨h1, h2, h3⟩, h4, h5⟩ := h
  refine ⟨by simp; omega, h3, ?_⟩
  have hk : kind = 1 ∨ kind = 2 ∨ kind = 3 ∨ kind = 4 := by omega
  rcases hk with rfl | rfl | rfl | rfl
  all_goals simp [writesB, reqWordsB, reqNoneB] at h4 h5
  · exact .inl ⟨rfl, by simp [h5.1], by simp [h5.2]⟩
  · exact .inr (.inl ⟨rfl, h5.1, h5.2.1⟩)
  · exact .inr (.inr (.inl ⟨rfl, h4, by simp [h5.1], by simp [h5.2]⟩))
  · refine .inr (.inr (.inr ⟨rfl, h4, ?_, ?_⟩))
    · have := h5.1; simp; omega
    · have := h5.2.1; simp; omega
theorem reqOk_id {r : Req} (h : reqOkB r = true) : reqOkB { r with id := 1 - r.id } = true := by
  have hp := (reqOk_parts h).1
  have e : inB (1 - r.id) 0 1 = inB r.id 0 1 := by
    rw [Bool.eq_iff_iff]; simp [inB]; omega
  have e2 : reqOkB { r with id := 1 - r.id } = reqOkB r := by
    unfold reqOkB reqHeadB
    simp only [e]
    rfl
  rw [e2, h]
theorem reqOk_more {r : Req} (h : reqOkB r = true) : reqOkB { r with data := r.data ++ [0] } = false := by
  obtain ⟨_, _, hp⟩ := reqOk_parts h
  rw [← Bool.not_eq_true]
  intro hy
  obtain ⟨_, _, hq⟩ := reqOk_parts hy
  simp only [List.length_append, List.length_singleton] at hq
  rcases hp with ⟨h1, h2, _⟩ | ⟨h1, h2, _⟩ | ⟨h1, h2, h3, _⟩ | ⟨h1, h2, h3, _⟩ <;> rcases hq with ⟨k1, k2, _⟩ | ⟨k1, k2, _⟩ | ⟨k1, k2, k3, _⟩ | ⟨k1, k2, k3, _⟩ <;> omega

/-- behind two appends, to an empty row of its own -/
theorem after_apps {W0 w4 w5 : World} {g4 c4 : Nat} {data zs : List Int} {v5 : Value} (hp4 : AppPost (W0.alloc (.cells #[] 3)) W0.heap.size data (.slice (some ⟨g4, 0, none⟩) data.length c4) w4) (hp5 : AppPost (w4.alloc (.cells #[.int .i64 0] 3)) g4 zs v5 w5) :
    Below W0.heap.size W0 w5 ∧ ∃ g5 c5, v5 = .slice (some ⟨g5, 0, none⟩) zs.length c5 ∧ IntsAt w5 (some ⟨g5, 0, none⟩) zs ∧ zs.length ≤ c5 ∧ c5 ≤ 9223372036854775807 ∧ W0.heap.size ≤ g5 := by
  have hb4 := hp4.below (n := W0.heap.size) (Nat.le_refl _) (by simp)
  obtain ⟨g', c', e, _, _, _, hg, hG4⟩ := hp4
  cases e
  have hs4 := hG4.size
  simp at hg hs4
  have hb5 := hp5.below (n := W0.heap.size) (by omega) (by simp; omega)
  obtain ⟨g5, c5, e5, hO5, h1, h2, hg5, _⟩ := hp5
  simp at hg5
  refine ⟨(((Below.refl _ W0).alloc (Nat.le_refl _) _).trans (hb4.mono (by omega))).trans ((((Below.refl _ w4).alloc (Nat.le_refl _) _).mono (by omega)).trans (hb5.mono (by omega))), g5, c5, e5, hO5.ints, h1, h2, by omega⟩

set_option maxRecDepth 100000 in
set_option maxHeartbeats 4000000 in
theorem walkC_FnReqOk (hI : ReqOkC) (a : Option Addr) (len cap : Nat) (w : World) (hc : len ≤ cap) (hm : cap ≤ 9223372036854775807) (h : Bytes w w.heap.size a len) :
    Calls Try.prog 4 #[.slice a len cap] w fun e w' => e = .returned (.bool true) ∧ Below w.heap.size w w' := by
  by_cases hl : 1048576 < len
  · have hI1 : (1048576 : Int) < (len : Int) := by omega
    clear h hI
    go_enter Try.func4, Try.ntmps4
    go_wp2
    go_ret
    exact ⟨rfl, Below.refl _ _⟩
  have hI1 : ¬ (1048576 : Int) < (len : Int) := by omega
  have HB := Hid.intro h
  have HC := Hid.intro hI
  clear h hI
  go_enter Try.func4, Try.ntmps4
  go_wp2_with fail
  refine (drawReqOk_any a len cap w hc hm HB.out).mono ?_
  rintro e w1 ⟨r, pd, cd, pl, cl, rfl, hA1, hl1, hl2, hb1⟩
  obtain ⟨id, kind, addr, many, wrap, data, lanes⟩ := r
  have hs1 := hb1.size
  have H1 := Hid.intro (fun W h => HC.out ⟨id, kind, addr, many, wrap, data, lanes⟩ pd pl cd cl W h)
  have H2 := Hid.intro (fun W h => spec_ReqOk ⟨id, kind, addr, many, wrap, data, lanes⟩ pd pl cd cl W h)
  unfold reqV at H1 H2 ⊢
  simp only at hl1 hl2
  go_wp2_with fail
  refine (H1.out _ (hA1.below ((Below.refl _ w1).alloc (Nat.le_refl _) _))).mono ?_
  rintro e w2 ⟨rfl, hb2⟩
  obtain ⟨c0, c1, c2, c3, c4, c5, c6⟩ := box7 hb2
  have hs2 := hb2.size
  simp at hs2
  have hbox2 : w2.heap[w1.heap.size]? = some (.cells #[.int .i64 id, .int .i64 kind, .int .i64 addr, .int .i64 many, .bool wrap, (.slice pd data.length cd), (.slice pl lanes.length cl)] 33 (0, 0)) := (hb2.block w1.heap.size (by simp)).trans (by show (w1.heap.push _)[w1.heap.size]? = _; simp)
  have hb2' := (hb1.trans (((Below.refl _ w1).alloc (Nat.le_refl _) _).mono hb1.size)).trans (hb2.mono (by simp; omega))
  have hA2 := (hA1.below ((Below.refl _ w1).alloc (Nat.le_refl _) _)).below hb2
  obtain ⟨A, hA⟩ : ∃ A, A = w1.heap.size := ⟨_, rfl⟩
  have hwA : w.heap.size ≤ A := by omega
  rw [← hA] at c0 c1 c2 c3 c4 c5 c6 hs2 hbox2 ⊢
  clear hA hb2 hA1 hb1 hs1
  go_wp2_with fail
  refine (H2.out w2 hA2).mono ?_
  rintro e w3 ⟨rfl, hb3⟩
  have hs3 := hb3.size
  have hbox3 := (hb3.block A (by omega)).trans hbox2
  have hA3 := hA2.below hb3
  have hb3' := hb2'.trans (hb3.mono hb2'.size)
  have hAl : A < w3.heap.size := by omega
  clear hb3 c0 c1 c2 c3 c4 c5 c6 hb2' hA2 hbox2 H1 H2
  have c0 : w3.cell? ⟨A, 0, none⟩ = some (.int .i64 id) := heap_cell hbox3 0
  have c1 : w3.cell? ⟨A, 1, none⟩ = some (.int .i64 kind) := heap_cell hbox3 1
  have c2 : w3.cell? ⟨A, 2, none⟩ = some (.int .i64 addr) := heap_cell hbox3 2
  have c3 : w3.cell? ⟨A, 3, none⟩ = some (.int .i64 many) := heap_cell hbox3 3
  have c4 : w3.cell? ⟨A, 4, none⟩ = some (.bool wrap) := heap_cell hbox3 4
  have c5 : w3.cell? ⟨A, 5, none⟩ = some (.slice pd data.length cd) := heap_cell hbox3 5
  have c6 : w3.cell? ⟨A, 6, none⟩ = some (.slice pl lanes.length cl) := heap_cell hbox3 6
  cases hok : reqOkB ⟨id, kind, addr, many, wrap, data, lanes⟩
  · clear hA3
    go_wp2_with (go_at_call 19; refine (crOk_any _).mono ?_; rintro e w' ⟨rfl, rfl⟩)
    go_ret
    exact ⟨rfl, hb3'⟩
  obtain ⟨hid, hadr, hpar⟩ := reqOk_parts hok
  simp only at hid hpar
  have HX := Hid.intro (reqOk_id hok)
  have HY := Hid.intro (reqOk_more hok)
  simp only at HX HY
  have HYc : Hid (∀ (g k : Nat) (W : World), IntsAt W (some ⟨g, 0, none⟩) (data ++ [0]) → (data ++ [0]).length ≤ k → k ≤ 9223372036854775807 → ReqAt W ⟨id, kind, addr, many, wrap, data, lanes⟩ pd cd pl cl →
      Calls Try.prog 21 #[.agg #[.int .i64 id, .int .i64 kind, .int .i64 addr, .int .i64 many, .bool wrap, .slice (some ⟨g, 0, none⟩) (data.length + 1) k, .slice pl lanes.length cl]] W fun e w' => e = .returned (.bool false) ∧ Below W.heap.size W w') := by
    intro g k W h1 h2 h3 h4
    have hy := HC.out ⟨id, kind, addr, many, wrap, data ++ [0], lanes⟩ (some ⟨g, 0, none⟩) pl k cl W ⟨h1, h4.lanes, h2, h3, h4.cl1, h4.cl2⟩
    unfold reqV at hy
    rw [HY.out] at hy
    simpa using hy
  have hid0 : (0 : Int) ≤ id := by omega
  have hid1 : id ≤ 1 := by omega
  obtain ⟨W0, hW0⟩ : ∃ W0, W0 = (w3.alloc (.cells #[.int .i64 (1 - id), .int .i64 kind, .int .i64 addr, .int .i64 many, .bool wrap, (.slice pd data.length cd), (.slice pl lanes.length cl)] 33)).alloc (.cells #[.int .i64 id, .int .i64 kind, .int .i64 addr, .int .i64 many, .bool wrap, (.slice pd data.length cd), (.slice pl lanes.length cl)] 33) := ⟨_, rfl⟩
  have hbW0 : Below w3.heap.size w3 W0 := by rw [hW0]; exact ((Below.refl _ w3).alloc (Nat.le_refl _) _).alloc (by simp) _
  have hsW0 : W0.heap.size = w3.heap.size + 2 := by rw [hW0]; simp
  have hX0 : W0.heap[w3.heap.size]? = some (.cells #[.int .i64 (1 - id), .int .i64 kind, .int .i64 addr, .int .i64 many, .bool wrap, (.slice pd data.length cd), (.slice pl lanes.length cl)] 33 (0, 0)) := by rw [hW0]; exact (Below.heap_alloc _ _ _ (by simp)).trans (by show (w3.heap.push _)[w3.heap.size]? = _; simp)
  have hY0 : W0.heap[w3.heap.size + 1]? = some (.cells #[.int .i64 id, .int .i64 kind, .int .i64 addr, .int .i64 many, .bool wrap, (.slice pd data.length cd), (.slice pl lanes.length cl)] 33 (0, 0)) := by rw [hW0]; exact new_at _ (by simp)
  have hD0 : IntsAt W0 pd data := (hA3.below hbW0).data
  have hL0 : IntsAt W0 pl lanes := (hA3.below hbW0).lanes
  have hcd1 := hA3.cd1
  have hcd2 := hA3.cd2
  have hcl1 := hA3.cl1
  have hcl2 := hA3.cl2
  simp only at hcd1 hcl1
  have hbox0 := (hbW0.block A hAl).trans hbox3
  have hb0 := hb3'.trans (hbW0.mono hb3'.size)
  have HA3 := Hid.intro hA3
  have HBW := Hid.intro hbW0
  have HB3 := Hid.intro hb3'
  clear hA3 hbW0 hb3' hbox3
  have hDe : IntsAt (W0.alloc (.cells #[] 3)) pd data := hD0.below ((Below.refl _ W0).alloc (Nat.le_refl _) _)
  rw [hW0] at hDe
  have hmany : many = 1 ∨ many = 2 ∨ many = 4 := by
    have := (adrOk_iff addr many wrap).1 hadr
    exact this.2.2.1
  have hAY : A ≠ w3.heap.size + 1 := by omega
  have hAa : A < w3.heap.size + 1 := by omega
  have hAb : A < w3.heap.size + 1 + 1 := by omega
  have hAc : A < w3.heap.size + 1 + 1 + 1 := by omega
  have hbD : ∃ bD : Bool, ((data.length : Int) == many) = bD ∧ ((kind = 1 ∧ bD = false) ∨ (kind = 2 ∧ bD = true) ∨ (kind = 3 ∧ many = 1 ∧ bD = false) ∨ (kind = 4 ∧ many = 1 ∧ bD = true)) := by
    rcases hpar with ⟨h1, h2, _⟩ | ⟨h1, h2, _⟩ | ⟨h1, h2, h3, _⟩ | ⟨h1, h2, h3, _⟩
    · exact ⟨false, by simp; omega, .inl ⟨h1, rfl⟩⟩
    · exact ⟨true, by simp; omega, .inr (.inl ⟨h1, rfl⟩)⟩
    · exact ⟨false, by simp; omega, .inr (.inr (.inl ⟨h1, h2, rfl⟩))⟩
    · exact ⟨true, by simp; omega, .inr (.inr (.inr ⟨h1, h2, rfl⟩))⟩
  obtain ⟨bD, hbD, hcase⟩ := hbD
  clear hpar hadr hmany hok
  have HAll := Hid.intro hbox0
  have HX0 := Hid.intro hX0
  have HY0 := Hid.intro hY0
  have HL0 := Hid.intro hL0
  have HD0 := Hid.intro hD0
  have HDe := Hid.intro hDe
  have HB0 := Hid.intro hb0
  have HS0 := Hid.intro hsW0
  clear hbox0 hX0 hY0 hL0 hD0 hDe hb0
  rcases hcase with ⟨rfl, rfl⟩ | ⟨rfl, rfl⟩ | ⟨rfl, rfl, rfl⟩ | ⟨rfl, rfl, rfl⟩
  all_goals
    rw [← hW0] at HDe
    go_wp2_with (at_builtin; first | (refine wpList_app [] data rfl rfl rfl (ORow.emptyAt (by simp)) (by unfold maxLen; omega) rfl (by rw [← hW0]; exact HDe.out) (by simp; omega) ?_; intro v4 w4 hp4; rw [← hW0] at hp4; rw [List.nil_append, show w3.heap.size + 1 + 1 = W0.heap.size by omega] at hp4; have hp4' := hp4; obtain ⟨g4, k4, e4, hO4, hcl4, hcm4, hg4, hG4⟩ := hp4'; subst e4; have HP4 := Hid.intro hp4; clear hp4 hG4 hg4) | (refine wpList_app data [0] rfl rfl rfl (hO4.of (Below.heap_alloc _ _ _ hO4.lt)) (by unfold maxLen; omega) rfl (ORow.one 0).ints (by simp; omega) ?_; intro v5 w5 hp5; obtain ⟨hbl5, g5, k5, e5, hI5, hcl5, hcm5, hg5⟩ := after_apps HP4.out hp5; subst e5; have bA := (hbl5.block A (by omega)).trans HAll.out; have bX := (hbl5.block w3.heap.size (by omega)).trans HX0.out; have bY := (hbl5.block (w3.heap.size + 1) (by omega)).trans HY0.out; have yf := heap_free bY 5; have a1 : w5.cell? ⟨A, 1, none⟩ = some (.int .i64 _) := heap_cell bA 1; have a3 : w5.cell? ⟨A, 3, none⟩ = some (.int .i64 _) := heap_cell bA 3; have a5 : w5.cell? ⟨A, 5, none⟩ = some (.slice _ _ _) := heap_cell bA 5; have x0 : w5.cell? ⟨w3.heap.size, 0, none⟩ = some (.int .i64 _) := heap_cell bX 0; have y0 : w5.cell? ⟨w3.heap.size + 1, 0, none⟩ = some (.int .i64 _) := heap_cell bY 0; have x1 : w5.cell? ⟨w3.heap.size, 1, none⟩ = some (.int .i64 _) := heap_cell bX 1; have y1 : w5.cell? ⟨w3.heap.size + 1, 1, none⟩ = some (.int .i64 _) := heap_cell bY 1; have x2 : w5.cell? ⟨w3.heap.size, 2, none⟩ = some (.int .i64 _) := heap_cell bX 2; have y2 : w5.cell? ⟨w3.heap.size + 1, 2, none⟩ = some (.int .i64 _) := heap_cell bY 2; have x3 : w5.cell? ⟨w3.heap.size, 3, none⟩ = some (.int .i64 _) := heap_cell bX 3; have y3 : w5.cell? ⟨w3.heap.size + 1, 3, none⟩ = some (.int .i64 _) := heap_cell bY 3; have x4 : w5.cell? ⟨w3.heap.size, 4, none⟩ = some (.bool _) := heap_cell bX 4; have y4 : w5.cell? ⟨w3.heap.size + 1, 4, none⟩ = some (.bool _) := heap_cell bY 4; have x5 : w5.cell? ⟨w3.heap.size, 5, none⟩ = some (.slice _ _ _) := heap_cell bX 5; have y5 : w5.cell? ⟨w3.heap.size + 1, 5, none⟩ = some (.slice _ _ _) := heap_cell bY 5; have x6 : w5.cell? ⟨w3.heap.size, 6, none⟩ = some (.slice _ _ _) := heap_cell bX 6; have y6 : w5.cell? ⟨w3.heap.size + 1, 6, none⟩ = some (.slice _ _ _) := heap_cell bY 6; have HAb := Hid.intro bA; have HXb := Hid.intro bX; have HYb := Hid.intro bY; have HBl := Hid.intro hbl5; have HI5 := Hid.intro hI5; clear bA bX bY hbl5 hI5 hp5 HP4 hO4))
    obtain ⟨w6, hw6⟩ : ∃ w6, w6 = w5.setCell ⟨w3.heap.size + 1, 5, none⟩ (.slice (some ⟨g5, 0, none⟩) (data.length + 1) k5) := ⟨_, rfl⟩
    have hb36 : Below w3.heap.size w3 w6 := by rw [hw6]; exact ((HBW.out.trans (HBl.out.mono (by omega))).setCell (p := ⟨w3.heap.size + 1, 5, none⟩) (by simp) _)
    have hA6 := HA3.out.below hb36
    have hs6 : w6.heap.size = w5.heap.size := by rw [hw6]; simp
    have hbY6 := heap_set HYb.out 5 (.slice (some ⟨g5, 0, none⟩) (data.length + 1) k5)
    have hbA6 := (heap_set_ne (w := w5) (i := 5) (v := .slice (some ⟨g5, 0, none⟩) (data.length + 1) k5) hAY).trans HAb.out
    have hI6 : IntsAt w6 (some ⟨g5, 0, none⟩) (data ++ [0]) := by rw [hw6]; exact HI5.out.of (by simp) (fun b off e _ => by cases e; exact heap_set_ne (by omega))
    have hYlt := heap_lt HYb.out
    have hAlt := heap_lt HAb.out
    rw [← hw6] at hbY6 hbA6 ⊢
    clear hw6 a1 a3 a5 x0 x1 x2 x3 x4 x5 x6 y0 y1 y2 y3 y4 y5 y6 yf HXb HYb HAb HI5
    refine (HC.out ⟨1 - id, _, addr, _, wrap, data, lanes⟩ pd pl cd cl w6 ⟨hA6.data, hA6.lanes, hA6.cd1, hA6.cd2, hA6.cl1, hA6.cl2⟩).mono ?_
    rintro e w7 ⟨rfl, hb7⟩
    rw [HX.out]
    have hs7 := hb7.size
    have bY7 := (hb7.block (w3.heap.size + 1) (by omega)).trans hbY6
    have bA7 := (hb7.block A (by omega)).trans hbA6
    have a1 : w7.cell? ⟨A, 1, none⟩ = some (.int .i64 _) := heap_cell bA7 1
    have a3 : w7.cell? ⟨A, 3, none⟩ = some (.int .i64 _) := heap_cell bA7 3
    have a5 : w7.cell? ⟨A, 5, none⟩ = some (.slice _ _ _) := heap_cell bA7 5
    have y0 : w7.cell? ⟨w3.heap.size + 1, 0, none⟩ = some (.int .i64 _) := heap_cell bY7 0
    have y1 : w7.cell? ⟨w3.heap.size + 1, 1, none⟩ = some (.int .i64 _) := heap_cell bY7 1
    have y2 : w7.cell? ⟨w3.heap.size + 1, 2, none⟩ = some (.int .i64 _) := heap_cell bY7 2
    have y3 : w7.cell? ⟨w3.heap.size + 1, 3, none⟩ = some (.int .i64 _) := heap_cell bY7 3
    have y4 : w7.cell? ⟨w3.heap.size + 1, 4, none⟩ = some (.bool _) := heap_cell bY7 4
    have y5 : w7.cell? ⟨w3.heap.size + 1, 5, none⟩ = some (.slice _ _ _) := heap_cell bY7 5
    have y6 : w7.cell? ⟨w3.heap.size + 1, 6, none⟩ = some (.slice _ _ _) := heap_cell bY7 6
    have hI7 := hI6.below hb7
    have hA7 := hA6.below hb7
    have hb7' := hb36.trans (hb7.mono (by omega))
    have HA7 := Hid.intro hA7
    have HI7 := Hid.intro hI7
    have HB7 := Hid.intro hb7'
    have HbA := Hid.intro bA7
    clear hb7 hb36 hA6 hI6 hbY6 hbA6 bY7 bA7 hA7 hI7 hb7'
    go_wp2_with fail
    refine (HYc.out g5 k5 w7 HI7.out hcl5 hcm5 HA7.out).mono ?_
    rintro e w8 ⟨rfl, hb8⟩
    have bA8 := (hb8.block A (by omega)).trans HbA.out
    have z1 : w8.cell? ⟨A, 1, none⟩ = some (.int .i64 _) := heap_cell bA8 1
    have z3 : w8.cell? ⟨A, 3, none⟩ = some (.int .i64 _) := heap_cell bA8 3
    have z5 : w8.cell? ⟨A, 5, none⟩ = some (.slice _ _ _) := heap_cell bA8 5
    have HB8 := Hid.intro ((HB3.out.trans (HB7.out.mono HB3.out.size)).trans (hb8.mono (by have := HB3.out.size; omega)))
    clear hb8 bA8
    go_wp2
    go_ret
    exact ⟨rfl, HB8.out⟩

end Go.Proofs.Ytdjmjdljgdagcaa
