/-
  The range in which all of what is asked is: reqIsIn of the program.
-/
import Derived.Test.YtdjmjdljgdagcaaItRoundSM
import Derived.Test.YtdjmjdljgdagcaaBurst
import Derived.Test.YtdjmjdljgdagcaaPInt
import Derived.Test.YtdjmjdljgdagcaaReqS
namespace Go.Proofs.Ytdjmjdljgdagcaa
open Go.RowKit Go.Shelf
set_option linter.unusedSimpArgs false
set_option linter.unusedVariables false
attribute [local go_sem] Oper.semAt_some

theorem burst_st (a : Int) (n b : Nat) (wrap : Bool) (ha : 0 ≤ a) (ha2 : a ≤ 63) (hn : 1 ≤ n) (hn4 : n ≤ 4) :
    ∃ gf lb, itV b wrap = .func (.func gf) #[] lb ∧
      (∀ args w, (callFunc gf args).run Try.prog w = .ok (.enter gf args) w) ∧
      ItSt Try.prog gf lb (Value.int .i64) (fun W => W.cell? ⟨b, 0, none⟩ = some (.int .i64 a) ∧ W.cell? ⟨b + 1, 0, none⟩ = some (.int .i64 n)) (fun k => k = b ∨ k = b + 1) (itL a n wrap) := by
  cases wrap
  · exact ⟨_, _, rfl, enters_of Try.func84 (by kernel_rfl) rfl, inRow1_st a n b (b + 1) ha ha2 hn hn4⟩
  · exact ⟨_, _, rfl, enters_of Try.func82 (by kernel_rfl) rfl, round1_st a n b (b + 1) ha ha2 hn hn4⟩

/-- all are in a range -/
def allInR (g : Rng) (l : List Int) : Bool := l.all (inRngB g)
theorem allInR_not (g : Rng) (l : List Int) : l.any (fun x => !inRngB g x) = !allInR g l := by
  simp [allInR, List.any_eq_not_all_not]

set_option maxRecDepth 100000 in
set_option maxHeartbeats 1000000 in
theorem isIn_req (r : Req) (pd pl : Option Addr) (cd cl : Nat) (g : Rng) (w : World) (hok : adrOkB r.addr r.many r.wrap = true) :
    Calls Try.prog 78 #[reqV r pd cd pl cl, .agg #[.int .i64 g.fr, .int .i64 g.tt, .int .i64 g.sl, .bool g.only]] w fun e w' => e = .returned (.bool (allInR g (burst r.addr r.many r.wrap))) ∧ Below w.heap.size w w' := by
  obtain ⟨h1, h2, h3, h4⟩ := (adrOk_iff r.addr r.many r.wrap).1 hok
  obtain ⟨n, hn⟩ := Int.eq_ofNat_of_zero_le (show 0 ≤ r.many by omega)
  have hn1 : 1 ≤ n := by omega
  have hn4 : n ≤ 4 := by omega
  rw [hn] at hok
  have HIB := Hid.intro (itL_burst hok)
  rw [hn]
  unfold reqV
  rw [hn]
  obtain ⟨a, ha⟩ : ∃ a, a = r.addr := ⟨_, rfl⟩
  obtain ⟨wrap, hwr⟩ : ∃ b, b = r.wrap := ⟨_, rfl⟩
  rw [← ha, ← hwr] at HIB ⊢
  rw [← ha] at h1 h2
  clear h3 h4 hok ha hwr
  have HC := Hid.intro (isIn_any g)
  refine (callsIn_wide (n := 9)).1 ?_
  refine callsIn_of_wp_marks Try.func78 rfl trivial ?_ rfl
  simp only [Try.ntmps78, List.size_toArray, List.length_cons, List.length_nil, Nat.reduceAdd, Nat.reduceSub, Array.replicate_succ, Array.replicate_zero, List.push_toArray, List.append_toArray, List.nil_append, List.cons_append]
  gi_wp2_with (show Fence.wide.fn 61 ∧ _; refine ⟨trivial, ?_⟩; refine (callsIn_wide.2 (burst_any a n wrap _)).mono ?_; rintro e w' ⟨rfl, hw⟩; subst hw)
  obtain ⟨W0, hW0⟩ : ∃ W0, (((((w.alloc (.cells #[.int .i64 r.id, .int .i64 r.kind, .int .i64 a, .int .i64 n, .bool wrap, .slice pd r.data.length cd, .slice pl r.lanes.length cl] 33)).alloc (.cells #[.int .i64 g.fr, .int .i64 g.tt, .int .i64 g.sl, .bool g.only] 43)).alloc (.cells #[.bool false] 4)).alloc (.cells #[.int .i64 a] 92)).alloc (.cells #[.int .i64 n] 3)) = W0 := ⟨_, rfl⟩
  have hs0 : W0.heap.size = w.heap.size + 5 := by rw [← hW0]; simp
  have hb0 : Below w.heap.size w W0 := by
    rw [← hW0]
    exact (((((Below.refl _ w).alloc (Nat.le_refl _) _).alloc (by simp) _).alloc (by simp; omega) _).alloc (by simp; omega) _).alloc (by simp; omega) _
  have hg0 : W0.heap[w.heap.size + 1]? = some (.cells #[.int .i64 g.fr, .int .i64 g.tt, .int .i64 g.sl, .bool g.only] 43 (0, 0)) := by
    rw [← hW0]
    exact (Below.heap_alloc _ _ _ (by simp <;> omega)).trans ((Below.heap_alloc _ _ _ (by simp <;> omega)).trans ((Below.heap_alloc _ _ _ (by simp)).trans (by have := World.alloc_heap_new (w.alloc (.cells #[.int .i64 r.id, .int .i64 r.kind, .int .i64 a, .int .i64 n, .bool wrap, .slice pd r.data.length cd, .slice pl r.lanes.length cl] 33)) (.cells #[.int .i64 g.fr, .int .i64 g.tt, .int .i64 g.sl, .bool g.only] 43); rwa [World.size_alloc] at this)))
  have hr0 : W0.heap[w.heap.size + 1 + 1]? = some (.cells #[.bool false] 4 (0, 0)) := by
    rw [← hW0]
    exact (Below.heap_alloc _ _ _ (by simp <;> omega)).trans ((Below.heap_alloc _ _ _ (by simp)).trans (by have := World.alloc_heap_new ((w.alloc (.cells #[.int .i64 r.id, .int .i64 r.kind, .int .i64 a, .int .i64 n, .bool wrap, .slice pd r.data.length cd, .slice pl r.lanes.length cl] 33)).alloc (.cells #[.int .i64 g.fr, .int .i64 g.tt, .int .i64 g.sl, .bool g.only] 43)) (.cells #[.bool false] 4); rwa [World.size_alloc, World.size_alloc] at this))
  have c2 : W0.cell? ⟨w.heap.size + 1 + 1 + 1, 0, none⟩ = some (.int .i64 a) := by
    rw [← hW0]; exact cell_al _ (by rw [World.cell?_alloc_at _ _ _ _ (by simp)]; rfl)
  have c3 : W0.cell? ⟨w.heap.size + 1 + 1 + 1 + 1, 0, none⟩ = some (.int .i64 n) := by
    rw [← hW0]; rw [World.cell?_alloc_at _ _ _ _ (by simp)]; rfl
  rw [hW0]
  clear hW0
  obtain ⟨gf, lb, hgf, heg, hit⟩ := burst_st a n (w.heap.size + 1 + 1 + 1) wrap h1 h2 hn1 hn4
  rw [hgf]
  refine wpIn_rangeS (gf := gf) (lb := lb) rfl heg hit
    (fun W' hb => ⟨(hb.cell (p := ⟨_, 0, none⟩) (by show w.heap.size + 1 + 1 + 1 < _; omega)).trans c2, (hb.cell (p := ⟨_, 0, none⟩) (by show w.heap.size + 1 + 1 + 1 + 1 < _; omega)).trans c3⟩)
    (fun k => k = w.heap.size + 1 + 1) (fun k hk => by omega)
    (fun k hk => ⟨fun e => by omega, by omega⟩) rfl (fun x => !inRngB g x)
    (fun pre W' => W'.heap[w.heap.size + 1]? = some (.cells #[.int .i64 g.fr, .int .i64 g.tt, .int .i64 g.sl, .bool g.only] 43 (0, 0)) ∧ W'.heap[w.heap.size + 1 + 1]? = some (.cells #[.bool false] 4 (0, 0)) ∧ Below w.heap.size w W')
    (fun W' => W'.heap[w.heap.size + 1 + 1]? = some (.cells #[.bool false] 4 (0, 0)) ∧ Below w.heap.size w W')
    (fun s A B hs hb => ⟨(hb.block _ (by omega)).trans hs.1, (hb.block _ (by omega)).trans hs.2.1, hs.2.2.trans (hb.mono (by omega))⟩)
    (fun A B hs hb => ⟨(hb.block _ (by omega)).trans hs.1, hs.2.trans (hb.mono (by omega))⟩)
    ⟨hg0, hr0, hb0⟩
    (fun x => { tmps := #[Value.agg
            #[Value.int IntKind.i64 r.id, Value.int IntKind.i64 r.kind, Value.int IntKind.i64 a,
              Value.int IntKind.i64 n, Value.bool wrap, Value.slice pd r.data.length cd,
              Value.slice pl r.lanes.length cl],
          Value.agg
            #[Value.int IntKind.i64 g.fr, Value.int IntKind.i64 g.tt, Value.int IntKind.i64 g.sl, Value.bool g.only],
          Value.pointer (some { block := w.heap.size, off := 0 }),
          Value.pointer (some { block := w.heap.size + 1, off := 0 }),
          Value.pointer (some { block := w.heap.size + 1 + 1, off := 0 }), Value.int IntKind.i64 x,
          Value.pointer (some { block := w.heap.size, off := 2 }), Value.int IntKind.i64 a,
          Value.pointer (some { block := w.heap.size, off := 3 }), Value.int IntKind.i64 n,
          Value.pointer (some { block := w.heap.size, off := 4 }), Value.bool wrap, Value.func (Fn.func gf) #[] lb,
          Value.int IntKind.i64 x, undef, undef, undef, undef], defers := [] }) ?assign ?body ?done ?stop
  case assign =>
    intro l' x W' m K hK
    gi_wp2
    exact hK
  case body =>
    rintro l' pre x W' m ⟨hg1, hr1, hbl⟩ hpre
    have g0 : W'.cell? ⟨w.heap.size + 1, 0, none⟩ = some (.int .i64 g.fr) := (heap_cell hg1 0).trans rfl
    have g1 : W'.cell? ⟨w.heap.size + 1, 1, none⟩ = some (.int .i64 g.tt) := (heap_cell hg1 1).trans rfl
    have g2 : W'.cell? ⟨w.heap.size + 1, 2, none⟩ = some (.int .i64 g.sl) := (heap_cell hg1 2).trans rfl
    have g3 : W'.cell? ⟨w.heap.size + 1, 3, none⟩ = some (.bool g.only) := (heap_cell hg1 3).trans rfl
    gi_wp2_with fail
    refine ⟨trivial, fun h => (by cases h), ?_⟩
    refine ((callsIn_wide.2 (HC.out x W')).inRound l').mono ?_
    rintro e W2 ⟨rfl, hb2⟩
    have hlt1 : w.heap.size + 1 < W'.heap.size := heap_lt hg1
    have hlt2 : w.heap.size + 1 + 1 < W'.heap.size := heap_lt hr1
    have hg2 := (hb2.block _ hlt1).trans hg1
    have hr2 := (hb2.block _ hlt2).trans hr1
    have hbl2 := hbl.trans (hb2.mono hbl.size)
    have hk2 : Kept (fun k => k = w.heap.size + 1 + 1) W' W2 := Kept.of_below hb2
    clear g0 g1 g2 g3 hb2
    cases hin : inRngB g x
    · have hc2 : W2.cell? ⟨w.heap.size + 1 + 1, 0, none⟩ = some (.bool false) := (heap_cell hr2 0).trans rfl
      have hf2 := heap_free hr2 0
      gi_wp2
      refine ⟨by simp [hin], hk2.trans (Kept.setCell (D := fun k => k = w.heap.size + 1 + 1) (p := ⟨w.heap.size + 1 + 1, 0, none⟩) _ rfl _), (heap_set hr2 0 _).trans rfl, hbl2.setCell (by show w.heap.size ≤ w.heap.size + 1 + 1; omega) _⟩
    · gi_wp2
      exact ⟨by simp [hin], hk2, hg2, hr2, hbl2⟩
  case done =>
    rintro B W' hB hany ⟨hg1, hr1, hbl⟩ hK
    have HN := Hid.intro (show allInR g (burst a n wrap) = true by rw [← HIB.out]; have := allInR_not g (itL a n wrap); rw [hany] at this; simpa using this)
    have hc2 : W'.cell? ⟨w.heap.size + 1 + 1, 0, none⟩ = some (.bool false) := (heap_cell hr1 0).trans rfl
    have hf2 := heap_free hr1 0
    have hK2 : (W'.setCell ⟨w.heap.size + 1 + 1, 0, none⟩ (.bool true)).heap[B]? = some (.deferred (some [])) := (heap_set_ne (by omega)).trans hK
    have hr2 := (heap_set hr1 0 (.bool true))
    have hr3 := (World.putObj_heap_other (o := .deferred none) (show w.heap.size + 1 + 1 ≠ B by omega)).trans hr2
    have hc3 : ((W'.setCell ⟨w.heap.size + 1 + 1, 0, none⟩ (.bool true)).putObj B (.deferred none)).cell? ⟨w.heap.size + 1 + 1, 0, none⟩ = some (.bool true) := (heap_cell hr3 0).trans rfl
    gi_wp2
    refine ⟨by simp, .inl ⟨_, _, rfl, run_takeDeferred hK2, ?_⟩⟩
    refine ⟨.bool true, ?_, by rw [HN.out], (hbl.setCell (p := ⟨w.heap.size + 1 + 1, 0, none⟩) (by show w.heap.size ≤ w.heap.size + 1 + 1; omega) _).trans (below_putObj _ (by omega) _)⟩
    simp [results, Try.results78, go_sem, hc3]
  case stop =>
    rintro B W' hB hany ⟨hr1, hbl⟩ hK
    have HN := Hid.intro (show allInR g (burst a n wrap) = false by rw [← HIB.out]; have := allInR_not g (itL a n wrap); rw [hany] at this; simpa using this)
    have hr3 := (World.putObj_heap_other (o := .deferred none) (show w.heap.size + 1 + 1 ≠ B by omega)).trans hr1
    have hc3 : (W'.putObj B (.deferred none)).cell? ⟨w.heap.size + 1 + 1, 0, none⟩ = some (.bool false) := (heap_cell hr3 0).trans rfl
    gi_wp2
    refine ⟨by simp, .inl ⟨_, _, rfl, run_takeDeferred hK, ?_⟩⟩
    refine ⟨.bool false, ?_, by rw [HN.out], hbl.trans (below_putObj _ (by omega) _)⟩
    simp [results, Try.results78, go_sem, hc3]

end Go.Proofs.Ytdjmjdljgdagcaa
