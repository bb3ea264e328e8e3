/-
  trcBurstsMeet of the program: a range over a burst within one over another.
-/
import Derived.Test.YtgjlkmhbaimjpaaRFunN
import Derived.Test.YtgjlkmhbaimjpaaImplUM
import Derived.Test.YtgjlkmhbaimjpaaTrA
namespace Go.Proofs.Ytgjlkmhbaimjpaa
open Go.RowKit Go.Shelf
set_option linter.unusedSimpArgs false
set_option linter.unusedVariables false
attribute [local go_sem] Oper.semAt_some

set_option maxRecDepth 100000 in
set_option maxHeartbeats 2000000 in
theorem meet_ints (q_0 q_1 r_0 r_1 : Int) (q_5 q_6 r_5 r_6 : Lst Int) (a c : Int) (n m : Nat) (wq wr : Bool) (w : World) (ha : 0 ≤ a) (ha2 : a ≤ 63) (hn : 1 ≤ n) (hn4 : n ≤ 4) (hc : 0 ≤ c) (hc2 : c ≤ 63) (hm : 1 ≤ m) (hm4 : m ≤ 4) :
    Calls Try.prog 115 #[.agg #[.int .i64 q_0, .int .i64 q_1, .int .i64 a, .int .i64 n, .bool wq, .slice q_5.p q_5.l.length q_5.c, .slice q_6.p q_6.l.length q_6.c], .agg #[.int .i64 r_0, .int .i64 r_1, .int .i64 c, .int .i64 m, .bool wr, .slice r_5.p r_5.l.length r_5.c, .slice r_6.p r_6.l.length r_6.c]] w fun e w' => e = .returned (.bool ((itL a n wq).any (fun x => (itL c m wr).any (fun y => x == y)))) ∧ Below w.heap.size w w' := by
  refine (callsIn_wide (n := 9)).1 ?_
  refine callsIn_of_wp_marks Try.func115 rfl trivial ?_ rfl
  simp only [Try.ntmps115, List.size_toArray, List.length_cons, List.length_nil, Nat.reduceAdd, Nat.reduceSub, Array.replicate_succ, Array.replicate_zero, List.push_toArray, List.append_toArray, List.nil_append, List.cons_append]
  gi_wp2_with (show Fence.wide.fn 132 ∧ _; refine ⟨trivial, ?_⟩; refine (callsIn_wide.2 (burst_any a n wq _)).mono ?_; rintro e w' ⟨rfl, hw⟩; subst hw)
  obtain ⟨W0, hW0⟩ : ∃ W0, (((((w.alloc (.cells #[.int .i64 q_0, .int .i64 q_1, .int .i64 a, .int .i64 n, .bool wq, .slice q_5.p q_5.l.length q_5.c, .slice q_6.p q_6.l.length q_6.c] 107)).alloc (.cells #[.int .i64 r_0, .int .i64 r_1, .int .i64 c, .int .i64 m, .bool wr, .slice r_5.p r_5.l.length r_5.c, .slice r_6.p r_6.l.length r_6.c] 107)).alloc (.cells #[.bool false] 4)).alloc (.cells #[.int .i64 a] 158)).alloc (.cells #[.int .i64 n] 3)) = W0 := ⟨_, rfl⟩
  have hs0 : W0.heap.size = w.heap.size + 5 := by rw [← hW0]; simp
  have hb0 : Below w.heap.size w W0 := by
    rw [← hW0]
    exact (((((Below.refl _ w).alloc (Nat.le_refl _) _).alloc (by simp) _).alloc (by simp; omega) _).alloc (by simp; omega) _).alloc (by simp; omega) _
  have hg0 : W0.heap[w.heap.size + 1]? = some (.cells #[.int .i64 r_0, .int .i64 r_1, .int .i64 c, .int .i64 m, .bool wr, .slice r_5.p r_5.l.length r_5.c, .slice r_6.p r_6.l.length r_6.c] 107 (0, 0)) := by
    rw [← hW0]
    exact (Below.heap_alloc _ _ _ (by simp <;> omega)).trans ((Below.heap_alloc _ _ _ (by simp <;> omega)).trans ((Below.heap_alloc _ _ _ (by simp)).trans (by have := World.alloc_heap_new (w.alloc (.cells #[.int .i64 q_0, .int .i64 q_1, .int .i64 a, .int .i64 n, .bool wq, .slice q_5.p q_5.l.length q_5.c, .slice q_6.p q_6.l.length q_6.c] 107)) (.cells #[.int .i64 r_0, .int .i64 r_1, .int .i64 c, .int .i64 m, .bool wr, .slice r_5.p r_5.l.length r_5.c, .slice r_6.p r_6.l.length r_6.c] 107); rwa [World.size_alloc] at this)))
  have hr0 : W0.heap[w.heap.size + 1 + 1]? = some (.cells #[.bool false] 4 (0, 0)) := by
    rw [← hW0]
    exact (Below.heap_alloc _ _ _ (by simp <;> omega)).trans ((Below.heap_alloc _ _ _ (by simp)).trans (by have := World.alloc_heap_new ((w.alloc (.cells #[.int .i64 q_0, .int .i64 q_1, .int .i64 a, .int .i64 n, .bool wq, .slice q_5.p q_5.l.length q_5.c, .slice q_6.p q_6.l.length q_6.c] 107)).alloc (.cells #[.int .i64 r_0, .int .i64 r_1, .int .i64 c, .int .i64 m, .bool wr, .slice r_5.p r_5.l.length r_5.c, .slice r_6.p r_6.l.length r_6.c] 107)) (.cells #[.bool false] 4); rwa [World.size_alloc, World.size_alloc] at this))
  have c2 : W0.cell? ⟨w.heap.size + 1 + 1 + 1, 0, none⟩ = some (.int .i64 a) := by
    rw [← hW0]; exact cell_al _ (by rw [World.cell?_alloc_at _ _ _ _ (by simp)]; rfl)
  have c3 : W0.cell? ⟨w.heap.size + 1 + 1 + 1 + 1, 0, none⟩ = some (.int .i64 n) := by
    rw [← hW0]; rw [World.cell?_alloc_at _ _ _ _ (by simp)]; rfl
  rw [hW0]
  clear hW0
  obtain ⟨gf, lb, hgf, heg, hit⟩ := burst_st a n (w.heap.size + 1 + 1 + 1) wq ha ha2 hn hn4
  rw [hgf]
  refine wpIn_rangeSB (gf := gf) (lb := lb) rfl heg hit
    (fun W' hb => ⟨(hb.cell (p := ⟨_, 0, none⟩) (by show w.heap.size + 1 + 1 + 1 < _; omega)).trans c2, (hb.cell (p := ⟨_, 0, none⟩) (by show w.heap.size + 1 + 1 + 1 + 1 < _; omega)).trans c3⟩)
    (fun k => k = w.heap.size + 1 + 1) (fun k hk => by omega)
    (fun k hk => ⟨fun e => by omega, by omega⟩) rfl (fun x => (itL c m wr).any (fun y => x == y))
    (fun pre W' => W'.heap[w.heap.size + 1]? = some (.cells #[.int .i64 r_0, .int .i64 r_1, .int .i64 c, .int .i64 m, .bool wr, .slice r_5.p r_5.l.length r_5.c, .slice r_6.p r_6.l.length r_6.c] 107 (0, 0)) ∧ W'.heap[w.heap.size + 1 + 1]? = some (.cells #[.bool false] 4 (0, 0)) ∧ Below w.heap.size w W')
    (fun W' => W'.heap[w.heap.size + 1 + 1]? = some (.cells #[.bool true] 4 (0, 0)) ∧ Below w.heap.size w W')
    (fun s A B hs hb => ⟨(hb.block _ (by omega)).trans hs.1, (hb.block _ (by omega)).trans hs.2.1, hs.2.2.trans (hb.mono (by omega))⟩)
    (fun A B hs hb => ⟨(hb.block _ (by omega)).trans hs.1, hs.2.trans (hb.mono (by omega))⟩)
    ⟨hg0, hr0, hb0⟩ 158
    (fun x B => { tmps := #[.agg #[.int .i64 q_0, .int .i64 q_1, .int .i64 a, .int .i64 n, .bool wq, .slice q_5.p q_5.l.length q_5.c, .slice q_6.p q_6.l.length q_6.c], .agg #[.int .i64 r_0, .int .i64 r_1, .int .i64 c, .int .i64 m, .bool wr, .slice r_5.p r_5.l.length r_5.c, .slice r_6.p r_6.l.length r_6.c], .pointer (some ⟨w.heap.size, 0, none⟩), .pointer (some ⟨w.heap.size + 1, 0, none⟩), .pointer (some ⟨w.heap.size + 1 + 1, 0, none⟩), .pointer (some ⟨B, 0, none⟩), undef, .pointer (some ⟨w.heap.size, 2, none⟩), .int .i64 a, .pointer (some ⟨w.heap.size, 3, none⟩), .int .i64 n, .pointer (some ⟨w.heap.size, 4, none⟩), .bool wq, .func (.func gf) #[] lb, .int .i64 x, undef, undef, undef, undef, undef, undef, undef, undef, undef, undef, undef], defers := [] }) ?assign ?body ?done ?stop
  case assign =>
    intro l' x W' m' K hK
    gi_wp2
    exact hK
  case body =>
    rintro l' pre x BX W' m' hl1 hl2 ⟨r0, hr0'⟩ hBX ⟨hg1, hr1, hbl⟩ hpre
    have hgl := heap_lt hg1
    have hrl := heap_lt hr1
    have hxl := heap_lt hBX
    have g0 : W'.cell? ⟨w.heap.size + 1, 0, none⟩ = some (.int .i64 r_0) := (heap_cell hg1 0).trans rfl
    have g1 : W'.cell? ⟨w.heap.size + 1, 1, none⟩ = some (.int .i64 r_1) := (heap_cell hg1 1).trans rfl
    have g2 : W'.cell? ⟨w.heap.size + 1, 2, none⟩ = some (.int .i64 c) := (heap_cell hg1 2).trans rfl
    have g3 : W'.cell? ⟨w.heap.size + 1, 3, none⟩ = some (.int .i64 m) := (heap_cell hg1 3).trans rfl
    have g4 : W'.cell? ⟨w.heap.size + 1, 4, none⟩ = some (.bool wr) := (heap_cell hg1 4).trans rfl
    have g5 : W'.cell? ⟨w.heap.size + 1, 5, none⟩ = some (.slice r_5.p r_5.l.length r_5.c) := (heap_cell hg1 5).trans rfl
    have g6 : W'.cell? ⟨w.heap.size + 1, 6, none⟩ = some (.slice r_6.p r_6.l.length r_6.c) := (heap_cell hg1 6).trans rfl
    have HBX := Hid.intro hBX
    have HG1 := Hid.intro hg1
    have HR1 := Hid.intro hr1
    clear hg1 hr1 hBX
    gi_wp2_with fail
    refine ⟨trivial, fun h => (by cases h), ?_⟩
    refine ((callsIn_wide.2 (burst_any c m wr W')).inRound l').mono ?_
    rintro e W2 ⟨rfl, hw⟩
    have hb2 : Below W'.heap.size W' W2 := by rw [hw]; exact ((Below.refl _ W').alloc (Nat.le_refl _) _).alloc (by simp) _
    have hs2 : W2.heap.size = W'.heap.size + 2 := by rw [hw]; simp
    have d2 : W2.cell? ⟨W'.heap.size, 0, none⟩ = some (.int .i64 c) := by
      rw [hw]; exact cell_al _ (by rw [World.cell?_alloc_at _ _ _ _ (by simp)]; rfl)
    have d3 : W2.cell? ⟨W'.heap.size + 1, 0, none⟩ = some (.int .i64 m) := by
      rw [hw]; rw [World.cell?_alloc_at _ _ _ _ (by simp)]; rfl
    have hX2 := (hb2.block _ hxl).trans HBX.out
    have hG2 := (hb2.block _ hgl).trans HG1.out
    have hR2 := (hb2.block _ hrl).trans HR1.out
    have hL2 := (hb2.block _ (by omega)).trans hr0'
    clear hw g0 g1 g2 g3 g4 g5 g6
    obtain ⟨gf2, lb2, hgf2, heg2, hit2⟩ := burst_st c m W'.heap.size wr hc hc2 hm hm4
    gi_wp2
    try rw [hgf2]
    refine wpIn_rangeSN hL2 (gf := gf2) (lb := lb2) rfl heg2 hit2
      (fun V hb => ⟨(hb.cell (p := ⟨_, 0, none⟩) (by show W'.heap.size < _; omega)).trans d2, (hb.cell (p := ⟨_, 0, none⟩) (by show W'.heap.size + 1 < _; omega)).trans d3⟩)
      (fun k => k = w.heap.size + 1 + 1) (fun k hk => by omega)
      (fun k hk => ⟨fun e => by omega, by omega⟩) rfl (fun y => x == y)
      (fun pre V => V.heap[w.heap.size + 1]? = some (.cells #[.int .i64 r_0, .int .i64 r_1, .int .i64 c, .int .i64 m, .bool wr, .slice r_5.p r_5.l.length r_5.c, .slice r_6.p r_6.l.length r_6.c] 107 (0, 0)) ∧ V.heap[w.heap.size + 1 + 1]? = some (.cells #[.bool false] 4 (0, 0)) ∧ V.heap[BX]? = some (.cells #[.int .i64 x] 158 (0, 0)) ∧ Below w.heap.size w V)
      (fun V => V.heap[w.heap.size + 1 + 1]? = some (.cells #[.bool true] 4 (0, 0)) ∧ Below w.heap.size w V)
      (fun s A B hs hb => ⟨(hb.block _ (by omega)).trans hs.1, (hb.block _ (by omega)).trans hs.2.1, (hb.block _ (by omega)).trans hs.2.2.1, hs.2.2.2.trans (hb.mono (by omega))⟩)
      (fun A B hs hb => ⟨(hb.block _ (by omega)).trans hs.1, hs.2.trans (hb.mono (by omega))⟩)
      ⟨hG2, hR2, hX2, hbl.trans (hb2.mono hbl.size)⟩
      (fun y => { tmps := #[.agg #[.int .i64 q_0, .int .i64 q_1, .int .i64 a, .int .i64 n, .bool wq, .slice q_5.p q_5.l.length q_5.c, .slice q_6.p q_6.l.length q_6.c], .agg #[.int .i64 r_0, .int .i64 r_1, .int .i64 c, .int .i64 m, .bool wr, .slice r_5.p r_5.l.length r_5.c, .slice r_6.p r_6.l.length r_6.c], .pointer (some ⟨w.heap.size, 0, none⟩), .pointer (some ⟨w.heap.size + 1, 0, none⟩), .pointer (some ⟨w.heap.size + 1 + 1, 0, none⟩), .pointer (some ⟨BX, 0, none⟩), .int .i64 y, .pointer (some ⟨w.heap.size, 2, none⟩), .int .i64 a, .pointer (some ⟨w.heap.size, 3, none⟩), .int .i64 n, .pointer (some ⟨w.heap.size, 4, none⟩), .bool wq, .func (.func gf) #[] lb, .int .i64 x, .pointer (some ⟨w.heap.size + 1, 2, none⟩), .int .i64 c, .pointer (some ⟨w.heap.size + 1, 3, none⟩), .int .i64 m, .pointer (some ⟨w.heap.size + 1, 4, none⟩), .bool wr, .func (.func gf2) #[] lb2, .int .i64 y, undef, undef, undef], defers := [] }) ?assign2 ?body2 ?done2 ?stop2
    case assign2 =>
      intro l2 y V m2 K hK
      gi_wp2
      exact hK
    case body2 =>
      rintro l2 pre2 y V m2 ⟨hg3, hr3, hx3, hbl3⟩ hpre2
      have x0 : V.cell? ⟨BX, 0, none⟩ = some (.int .i64 x) := (heap_cell hx3 0).trans rfl
      have z0 : V.cell? ⟨w.heap.size + 1 + 1, 0, none⟩ = some (.bool false) := (heap_cell hr3 0).trans rfl
      have zf := heap_free hr3 0
      have HH := Hid.intro (And.intro hg3 (And.intro hr3 (And.intro hx3 hbl3)))
      have hlt := heap_lt hr3
      clear hg3 hr3 hx3 hbl3
      cases hxy : (x == y)
      · have HXY := Hid.intro hxy
        have hne : ¬ x = y := by simpa using hxy
        clear hxy
        gi_wp2
        exact ⟨by first | exact HXY.out | rfl, Kept.refl _ _, HH.out⟩
      · have HXY := Hid.intro hxy
        have he : x = y := by simpa using hxy
        subst he
        clear hxy
        gi_wp2
        exact ⟨by first | exact HXY.out | rfl, Kept.setCell (D := fun k => k = w.heap.size + 1 + 1) (p := ⟨w.heap.size + 1 + 1, 0, none⟩) _ rfl _, (heap_set HH.out.2.1 0 _).trans rfl, HH.out.2.2.2.setCell (by show w.heap.size ≤ w.heap.size + 1 + 1; omega) _⟩
    case done2 =>
      rintro V hany ⟨hg3, hr3, hx3, hbl3⟩ hk3
      gi_wp2
      exact ⟨hany, (Kept.of_below hb2).trans hk3, hg3, hr3, hbl3⟩
    case stop2 =>
      rintro V hany ⟨hr3, hbl3⟩ hk3
      gi_wp2
      exact ⟨hany, (Kept.of_below hb2).trans hk3, hr3, hbl3⟩
  case done =>
    rintro B W' hB hany ⟨hg1, hr1, hbl⟩ hK
    have HN := Hid.intro hany
    have hc2 : W'.cell? ⟨w.heap.size + 1 + 1, 0, none⟩ = some (.bool false) := (heap_cell hr1 0).trans rfl
    have hf2 := heap_free hr1 0
    have hK2 : (W'.setCell ⟨w.heap.size + 1 + 1, 0, none⟩ (.bool false)).heap[B]? = some (.deferred (some [])) := (heap_set_ne (by omega)).trans hK
    have hr2 := (heap_set hr1 0 (.bool false))
    have hr3 := (World.putObj_heap_other (o := .deferred none) (show w.heap.size + 1 + 1 ≠ B by omega)).trans hr2
    have hc3 : ((W'.setCell ⟨w.heap.size + 1 + 1, 0, none⟩ (.bool false)).putObj B (.deferred none)).cell? ⟨w.heap.size + 1 + 1, 0, none⟩ = some (.bool false) := (heap_cell hr3 0).trans rfl
    clear hany
    gi_wp2
    refine ⟨by simp, .inl ⟨_, _, rfl, run_takeDeferred hK2, ?_⟩⟩
    refine ⟨.bool false, ?_, by rw [HN.out], (hbl.setCell (p := ⟨w.heap.size + 1 + 1, 0, none⟩) (by show w.heap.size ≤ w.heap.size + 1 + 1; omega) _).trans (below_putObj _ (by omega) _)⟩
    simp [results, Try.results115, go_sem, hc3]
  case stop =>
    rintro B W' hB hany ⟨hr1, hbl⟩ hK
    have HN := Hid.intro hany
    have hr3 := (World.putObj_heap_other (o := .deferred none) (show w.heap.size + 1 + 1 ≠ B by omega)).trans hr1
    have hc3 : (W'.putObj B (.deferred none)).cell? ⟨w.heap.size + 1 + 1, 0, none⟩ = some (.bool true) := (heap_cell hr3 0).trans rfl
    clear hany
    gi_wp2
    refine ⟨by simp, .inl ⟨_, _, rfl, run_takeDeferred hK, ?_⟩⟩
    refine ⟨.bool true, ?_, by rw [HN.out], hbl.trans (below_putObj _ (by omega) _)⟩
    simp [results, Try.results115, go_sem, hc3]

theorem trcMeet_any (q r : (Int × Int × Int × Int × Bool × (Lst Int) × (Lst Int))) (hq : adrOkB q.2.2.1 q.2.2.2.1 q.2.2.2.2.1 = true) (hr : adrOkB r.2.2.1 r.2.2.2.1 r.2.2.2.2.1 = true) (w : World) :
    Calls Try.prog 115 #[yReqReq.val q, yReqReq.val r] w fun e w' => e = .returned (.bool (meetP (reqOf (yReqReq.pl q)) (reqOf (yReqReq.pl r)))) ∧ Below w.heap.size w w' := by
  obtain ⟨q_0, q_1, q_2, q_3, q_4, q_5, q_6⟩ := q
  obtain ⟨r_0, r_1, r_2, r_3, r_4, r_5, r_6⟩ := r
  simp only at hq hr
  obtain ⟨h1, h2, h3, _⟩ := (adrOk_iff _ _ _).1 hq
  obtain ⟨k1, k2, k3, _⟩ := (adrOk_iff _ _ _).1 hr
  obtain ⟨n, rfl⟩ := Int.eq_ofNat_of_zero_le (show 0 ≤ q_3 by omega)
  obtain ⟨m, rfl⟩ := Int.eq_ofNat_of_zero_le (show 0 ≤ r_3 by omega)
  have := meet_ints q_0 q_1 r_0 r_1 q_5 q_6 r_5 r_6 q_2 r_2 n m q_4 r_4 w h1 h2 (by omega) (by omega) k1 k2 (by omega) (by omega)
  rw [itL_burst hq, itL_burst hr] at this
  exact this

end Go.Proofs.Ytgjlkmhbaimjpaa
