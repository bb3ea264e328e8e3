/-
  AdrBurst of the program.
-/
import Derived.Test.YtdjmjdljgdagcaaItRound
import Derived.Test.YtdjmjdljgdagcaaIRow
namespace Go.Proofs.Ytdjmjdljgdagcaa
open Go.RowKit Go.Shelf
set_option linter.unusedSimpArgs false
set_option linter.unusedVariables false
attribute [local go_sem] Oper.semAt_some

theorem run_append_in {P : Program} {ρ : Operand → Value} {o : Oper} {w : World} {s x g cap n b c : Nat} {xs : List Value} {u : Value} (T E : TypeId) (i : TypeInfo)
    (ht : P.underlying T = some (.slice E)) (hi : P.info? E = some i) (hsz : i.size = 1)
    (ho : o.op = .call { callee := .builtin .append, args := #[.tmp s, .tmp x], argTypes := #[T, T] })
    (hs : ρ (.tmp s) = .slice (some ⟨g, 0, none⟩) n cap) (hW : ORow E 1 w g cap n xs) (hx : ρ (.tmp x) = .slice (some ⟨b, 0, none⟩) 1 c)
    (hu : w.cell? ⟨b, 0, none⟩ = some u) (h1 : u.oneCell' = true) (hr : n + 1 ≤ cap) :
    ∃ w', (execOp ρ o).run P w = .ok (.value (.slice (some ⟨g, 0, none⟩) (n + 1) cap)) w' ∧ ORow E 1 w' g cap (n + 1) (xs ++ [u]) ∧ Grew w w' g := by
  obtain ⟨cur, c1, c2, c3, c4, c5⟩ := hW
  have hrun := run_append_room (P := P) w T o.type E i ht hi g n cap cur c1 ⟨b, 0, none⟩ 1 c [u] (by rw [hsz]; rfl) (by
      intro j v hj
      rcases j with _ | j
      · simp at hj; subst hj; rw [Addr.add_lit]; simpa using hu
      · simp at hj) (by simpa using h1) hr (by rw [hsz]; simp; omega)
  rw [hsz] at hrun
  have hheap := setRow_heap w g cur (cur.toList.take (n * 1) ++ [u] ++ cur.toList.drop (n * 1 + [u].length)).toArray E (0, 0) c1
  have hlen : (cur.toList.take (n * 1)).length = n * 1 := by rw [c5]; exact c4
  refine ⟨_, ?_, ⟨_, hheap, ?_, hr, ?_, ?_⟩, ⟨rfl, rfl, rfl, by simp, fun k _ hk => setRow_other w g k _ hk⟩⟩
  · unfold execOp
    simp only [ho, resolve, invoke, builtin, Sem.run_bind, Sem.run_pure, Result.andThen_ok, List.map_toArray, List.map_cons, List.map_nil, hs, hx, hrun]
  · simp only [List.size_toArray, List.length_append, hlen, List.length_drop, Array.length_toList, c2, List.length_cons, List.length_nil]
    omega
  · simp [c4]
  · have hxy : (cur.toList.take (n * 1) ++ [u]).length = (n + 1) * 1 := by rw [List.length_append, hlen]; simp
    show (cur.toList.take (n * 1) ++ [u] ++ cur.toList.drop (n * 1 + [u].length)).take ((n + 1) * 1) = xs ++ [u]
    rw [List.take_append_of_le_length (by rw [hxy]; exact Nat.le_refl _), ← hxy, List.take_length, c5]

theorem wpListIn_append_in {F : Fence} {m : Nat} {P : Program} (w : World) {ops : Array Oper} {rest : List Oper} {o : Oper} {a : Act} {Q : Exit → Act → World → Prop}
    (hg : o.guard = none) {s x g cap n b c : Nat} {xs : List Value} {u : Value} (T E : TypeId) (i : TypeInfo)
    (ht : P.underlying T = some (.slice E)) (hi : P.info? E = some i) (hsz : i.size = 1)
    (ho : o.op = .call { callee := .builtin .append, args := #[.tmp s, .tmp x], argTypes := #[T, T] })
    (hs : a.eval (.tmp s) = .slice (some ⟨g, 0, none⟩) n cap) (hW : ORow E 1 w g cap n xs) (hx : a.eval (.tmp x) = .slice (some ⟨b, 0, none⟩) 1 c)
    (hu : w.cell? ⟨b, 0, none⟩ = some u) (h1 : u.oneCell' = true) (hr : n + 1 ≤ cap)
    (hK : ∀ w', ORow E 1 w' g cap (n + 1) (xs ++ [u]) → Grew w w' g → wpListIn F m P ops Q rest (a.put o.dst (.slice (some ⟨g, 0, none⟩) (n + 1) cap)) w') : wpListIn F m P ops Q (o :: rest) a w := by
  refine wpListIn_plain hg fun K hK' => ?_
  obtain ⟨w', hrun, r1, r2⟩ := run_append_in (P := P) T E i ht hi hsz ho hs hW hx hu h1 hr
  unfold Oper.wpIn
  refine ⟨?_, ?_⟩
  · simp [Oper.about, ho, resolve, Target.leads, Sem.run_pure]
  · rw [Oper.semAt_plain _ _ _ (by rw [ho]; intro c h; cases h), hrun]
    exact hK' _ _ (hK w' r1 r2)

theorem ORow.of_own {w : World} {base g n cap : Nat} {l : List Value} {E : Nat} (h : w.ownsRow base E 1 (.slice (some ⟨g, 0, none⟩) n cap) n l) : ORow E 1 w g cap n l := by
  obtain ⟨hl, h | ⟨g', cap', cur, hv, h1, h2, h3, h4, h5, h6⟩⟩ := h
  · simp at h
  · simp at hv
    obtain ⟨rfl, rfl⟩ := hv
    exact ⟨cur, h2, h5, h3, hl, h6⟩
theorem ORow.below {E s : Nat} {w w' : World} {b cap n : Nat} {cs : List Value} {M : Nat} (h : ORow E s w b cap n cs) (hb : Below M w w') (hM : b < M) : ORow E s w' b cap n cs := h.of (hb.block b hM)

/-- the addresses of a burst, as the program's iterators tell them -/
def itL (a : Int) (n : Nat) (wrap : Bool) : List Int := if wrap then (rowL a n).map (rnd a n) else rowL a n
theorem itL_len (a : Int) (n : Nat) (wrap : Bool) : (itL a n wrap).length = n := by cases wrap <;> simp [itL, rowL]
theorem itL_burst {a : Int} {n : Nat} {wrap : Bool} (h : adrOkB a n wrap = true) : itL a n wrap = burst a n wrap := by
  rw [burst_ok h]
  cases wrap
  · simp [itL, rowL, burstAt]
  · simp only [itL, rowL, if_true, List.map_map]
    refine List.map_congr_left fun k _ => ?_
    simp [rnd, burstAt]

theorem burst_it (a : Int) (n b : Nat) (wrap : Bool) (ha : 0 ≤ a) (ha2 : a ≤ 63) (hn : 1 ≤ n) (hn4 : n ≤ 4) :
    ∃ gf lb, itV b wrap = .func (.func gf) #[] lb ∧
      (∀ args w, (callFunc gf args).run Try.prog w = .ok (.enter gf args) w) ∧
      ItOk Try.prog gf lb (Value.int .i64) (fun W => W.cell? ⟨b, 0, none⟩ = some (.int .i64 a) ∧ W.cell? ⟨b + 1, 0, none⟩ = some (.int .i64 n)) (fun k => k = b ∨ k = b + 1) (itL a n wrap) := by
  cases wrap
  · exact ⟨_, _, rfl, enters_of Try.func84 (by kernel_rfl) rfl, inRow1_it a n b (b + 1) ha ha2 hn hn4⟩
  · exact ⟨_, _, rfl, enters_of Try.func82 (by kernel_rfl) rfl, round1_it a n b (b + 1) ha ha2 hn hn4⟩

set_option maxRecDepth 100000 in
set_option maxHeartbeats 400000 in
theorem impl_AdrBurst (a m : Int) (wrap : Bool) (w : World) :
    Calls Try.prog 27 #[.int .i64 a, .int .i64 m, .bool wrap] w fun e w' => ∃ p cap, e = .returned (.slice p (burst a m wrap).length cap) ∧ IntsAt w' p (burst a m wrap) ∧ (∀ g off, p = some ⟨g, off, none⟩ → w.heap.size ≤ g) ∧ (burst a m wrap).length ≤ cap ∧ cap ≤ 9223372036854775807 ∧ Below w.heap.size w w' ∧ (burst a m wrap = [] ∨ ∃ g, p = some ⟨g, 0, none⟩ ∧ w.heap.size ≤ g ∧ ORow 3 1 w' g cap (burst a m wrap).length ((burst a m wrap).map (Value.int .i64))) := by
  cases hok : adrOkB a m wrap
  · have hb := burst_no hok
    have HB := Hid.intro hb
    clear hb
    go_enter Try.func27, Try.ntmps27
    go_wp2_with (go_at_call 50; refine (impl_AdrOk _ _ _ _).mono ?_; rintro e w' ⟨rfl, rfl⟩)
    go_ret
    refine ⟨none, 0, ?_, .inl HB.out, (by intro g off h; cases h), by rw [HB.out]; simp, by omega, Below.refl _ _, .inl HB.out⟩
    rw [HB.out]; rfl
  · obtain ⟨h1, h2, h3, h4⟩ := (adrOk_iff a m wrap).1 hok
    obtain ⟨n, rfl⟩ := Int.eq_ofNat_of_zero_le (show 0 ≤ m by omega)
    have hn1 : 1 ≤ n := by omega
    have hn4 : n ≤ 4 := by omega
    have HIB := Hid.intro (itL_burst hok)
    have HOK := Hid.intro hok
    clear h3 h4
    obtain ⟨i0, hi, hz0, hz1, hz2⟩ := info_parts Try.infoInt
    refine (callsIn_wide (n := 9)).1 ?_
    refine callsIn_of_wp_marks Try.func27 rfl trivial ?_ rfl
    simp only [Try.ntmps27, List.size_toArray, List.length_cons, List.length_nil, Nat.reduceAdd, Nat.reduceSub, Array.replicate_succ, Array.replicate_zero, List.push_toArray, List.append_toArray, List.nil_append, List.cons_append]
    gi_wp2_with (first
      | (show Fence.wide.fn 50 ∧ _; refine ⟨trivial, ?_⟩; refine (callsIn_wide.2 (impl_AdrOk _ _ _ _)).mono ?_; rintro e w' ⟨rfl, hw⟩; replace hw := hw.symm; subst hw)
      | (gi_at_make; refine wpListIn_make_own _ rfl _ _ 23 rfl w.heap.size 3 i0 (.int .i64 0) 1 Try.underlying23 hi hz0 hz1 .i64 .i64 n n rfl rfl rfl (by rw [hz2]; omega) (by unfold maxLen; omega) (Nat.le_refl _) ?_; intro w1 hown1 hgrow1)
      | (show Fence.wide.fn 61 ∧ _; refine ⟨trivial, ?_⟩; refine (callsIn_wide.2 (burst_any a n wrap _)).mono ?_; rintro e w' ⟨rfl, hw⟩; subst hw))
    have hORow1 := ORow.of_own hown1
    have hs1 : w.heap.size < w1.heap.size := hORow1.lt
    have hb1 : Below w.heap.size w w1 := (Below.refl _ w).grown hgrow1 (Nat.le_refl _) (fun k h => by cases h)
    obtain ⟨W0, hW0⟩ : ∃ W0, (((w1.alloc (.cells #[.slice (some ⟨w.heap.size, 0, none⟩) 0 n] 23)).alloc (.cells #[.int .i64 a] 92)).alloc (.cells #[.int .i64 n] 3)) = W0 := ⟨_, rfl⟩
    have hs0 : W0.heap.size = w1.heap.size + 3 := by rw [← hW0]; simp
    have hb0 : Below w1.heap.size w1 W0 := by
      rw [← hW0]
      exact (((Below.refl _ w1).alloc (by simp) _).alloc (by simp) _).alloc (by simp; omega) _
    have c1 : Boxed W0 w1.heap.size 23 (.slice (some ⟨w.heap.size, 0, none⟩) 0 n) := by
      rw [← hW0]; exact ((Boxed.new w1 _ _).alloc _).alloc _
    have c2 : W0.cell? ⟨w1.heap.size + 1, 0, none⟩ = some (.int .i64 a) := by
      rw [← hW0]; exact cell_al _ (by rw [World.cell?_alloc_at _ _ _ _ (by simp)]; rfl)
    have c3 : W0.cell? ⟨w1.heap.size + 1 + 1, 0, none⟩ = some (.int .i64 n) := by
      rw [← hW0]; rw [World.cell?_alloc_at _ _ _ _ (by simp)]; rfl
    rw [hW0]
    clear hW0
    obtain ⟨gf, lb, hgf, heg, hit⟩ := burst_it a n (w1.heap.size + 1) wrap h1 h2 hn1 hn4
    refine wpIn_range (gf := gf) (lb := lb) hgf heg hit
      (fun W' hb => ⟨(hb.cell (p := ⟨_, 0, none⟩) (by show w1.heap.size + 1 < _; omega)).trans c2, (hb.cell (p := ⟨_, 0, none⟩) (by show w1.heap.size + 1 + 1 < _; omega)).trans c3⟩)
      (fun k => k = w.heap.size ∨ k = w1.heap.size) (fun k hk => by omega)
      (fun k hk => ⟨fun e => by omega, by omega⟩) rfl
      (fun pre W' => Boxed W' w1.heap.size 23 (.slice (some ⟨w.heap.size, 0, none⟩) pre.length n) ∧ ORow 3 1 W' w.heap.size n pre.length (pre.map (Value.int .i64)) ∧ Below w.heap.size w W')
      (fun s A B hs hb => ⟨(hb.block _ (by omega)).trans hs.1, hs.2.1.below hb (by omega), hs.2.2.trans (hb.mono (by omega))⟩)
      ⟨c1, hORow1.below hb0 hs1, hb1.trans (hb0.mono (by omega))⟩
      (fun x => { tmps := #[Value.int IntKind.i64 a, Value.int IntKind.i64 n, Value.bool wrap, undef, undef, undef,
          Value.slice none 0 0, Value.pointer (some { block := w1.heap.size, off := 0 }), Value.int IntKind.i64 x,
          Value.int IntKind.i64 a, Value.int IntKind.i64 n, Value.bool wrap, Value.bool true, Value.bool false,
          Value.int IntKind.i64 n, Value.slice (some { block := w.heap.size, off := 0 }) 0 n, Value.int IntKind.i64 a,
          Value.int IntKind.i64 n, Value.bool wrap, Value.func (Fn.func gf) #[] lb,
          Value.int IntKind.i64 x, undef, undef, undef, undef, undef], defers := [] }) ?assign ?body ?done
    case assign =>
      intro l' x W' m K hK
      gi_wp2
      exact hK
    case body =>
      rintro l' pre x W' m ⟨hbx, hrow, hbl⟩ hpre
      have hlen : pre.length + 1 ≤ n := by
        have := hpre.length_le
        rw [itL_len] at this
        simpa using this
      have hcell := hbx.cell
      have hfr := hbx.frozen
      have hbxlt := hbx.lt
      have hrlt := hrow.lt
      gi_wp2_with (gi_at_builtin; refine wpListIn_append_in _ rfl 23 3 i0 Try.underlying23 hi hz1 rfl (g := w.heap.size) (cap := n) (n := pre.length) (b := W'.heap.size) (c := 1) (u := .int .i64 x) rfl (hrow.of (Below.heap_alloc _ _ _ hrlt)) rfl (by simp) rfl hlen ?_; intro w2 hrow2 hgr2; have hbx2 : Boxed w2 w1.heap.size 23 (.slice (some ⟨w.heap.size, 0, none⟩) pre.length n) := (hgr2.block _ (by simp; omega) (by omega)).trans (hbx.alloc _); have hc2 := hbx2.cell; have hf2 := hbx2.frozen)
      have hkp : Kept (fun k => k = w.heap.size ∨ k = w1.heap.size) W' (w2.setCell ⟨w1.heap.size, 0, none⟩ (.slice (some ⟨w.heap.size, 0, none⟩) (pre.length + 1) n)) := by
        refine Kept.trans (B := w2) ⟨hgr2.os, hgr2.tape, hgr2.output, Nat.le_trans (by simp) hgr2.size, fun k hk hd => (hgr2.block k (by simp; omega) (fun e => hd (.inl e))).trans (Below.heap_alloc _ _ _ hk)⟩ ?_
        exact Kept.setCell _ (.inr rfl) _
      refine ⟨hkp, ?_, ?_, ?_⟩
      · rw [List.length_append]
        exact hbx2.set _
      · rw [List.length_append, List.map_append]
        exact hrow2.of (Below.heap_setCell _ _ _ _ (by show w.heap.size ≠ w1.heap.size; omega))
      · refine hbl.trans ⟨hkp.os, hkp.tape, hkp.output, hkp.size, fun k hk => hkp.block k (by have := hbl.size; omega) (by omega)⟩
    case done =>
      rintro B W' hB ⟨hbx, hrow, hbl⟩ hK
      have hcell := hbx.cell
      have hfr := hbx.frozen
      gi_wp2
      refine ⟨by simp, .inl ⟨_, _, rfl, run_takeDeferred hK, ?_⟩⟩
      have hput : Below w.heap.size W' (W'.putObj B (.deferred none)) := below_putObj _ (by omega) _
      have hE := HIB.out
      refine ⟨_, results_tmp rfl _ _ _, some ⟨w.heap.size, 0, none⟩, n, ?_, ?_, ?_, ?_, by omega, hbl.trans hput, ?_⟩
      · rw [← hE]; rfl
      · rw [← hE]
        refine .inr ⟨w.heap.size, 0, rfl, by have := hrow.lt; simpa using this, fun k hk => ?_⟩
        have := (hrow.of (World.putObj_heap_other (o := .deferred none) (show w.heap.size ≠ B by omega))).get k (.int .i64 (itL a n wrap)[k]) (by simp [hk])
        simpa using this
      · intro g off h
        simp at h
        omega
      · rw [← hE, itL_len]; exact Nat.le_refl _
      · rw [← hE]
        exact .inr ⟨w.heap.size, rfl, Nat.le_refl _, hrow.of (World.putObj_heap_other (o := .deferred none) (show w.heap.size ≠ B by omega))⟩

end Go.Proofs.Ytdjmjdljgdagcaa
