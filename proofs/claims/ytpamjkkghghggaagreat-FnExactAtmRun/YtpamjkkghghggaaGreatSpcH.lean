/-
  AtmDo of the model, walked.
-/
import Derived.Test.YtpamjkkghghggaaGreatSpcGM
namespace Go.Proofs.YtpamjkkghghggaaGreat
open Go.RowKit
set_option linter.unusedSimpArgs false
set_option linter.unusedVariables false

theorem kept3k (D : Nat → Prop) (w : World) {b : Nat} (hb : D b) (v0 v1 v2 : Value) : Kept D w (((w.setCell ⟨b, 0, none⟩ v0).setCell ⟨b, 1, none⟩ v1).setCell ⟨b, 2, none⟩ v2) :=
  ((Kept.setCell (D := D) (p := ⟨b, 0, none⟩) _ hb _).trans (Kept.setCell (D := D) (p := ⟨b, 1, none⟩) _ hb _)).trans (Kept.setCell (D := D) (p := ⟨b, 2, none⟩) _ hb _)
/-- a region that stores a state (operation 10) and what came of it (operation 11), of a kind -/
structure CN (R8 R9 : Nat) (sv : Array Value) (K : World → Value → Prop) (W0 : World) (d : Nat → Bool) (W : World) : Prop where
  kept : Kept (fun k => k = R8 ∨ k = R9) W0 W
  b8 : W.heap[R8]? = some (.cells (if d 10 then sv else #[.slice none 0 0, .slice none 0 0]) 34 (0, 0))
  b9 : ∃ v0 v1 v2, W.heap[R9]? = some (.cells #[v0, v1, v2] 63 (0, 0)) ∧ (d 11 = true → K W (.agg #[v0, v1, v2]))
  ne : R8 ≠ R9
theorem CN.step {R8 R9 : Nat} {sv : Array Value} {K : World → Value → Prop} {W0 W : World} {d : Nat → Bool} {i : Nat} (h2 : 10 ≠ i) (h3 : 11 ≠ i) (h : CN R8 R9 sv K W0 d W) : CN R8 R9 sv K W0 (updB d i) W :=
  ⟨h.kept, by rw [uB_ne d h2]; exact h.b8, by rw [uB_ne d h3]; exact h.b9, h.ne⟩
theorem CN.grow {R8 R9 : Nat} {sv : Array Value} {K : World → Value → Prop} {W0 W W' : World} {d : Nat → Bool} {i : Nat} (hKg : ∀ w w' v, Gr w w' → K w v → K w' v) (h2 : 10 ≠ i) (h3 : 11 ≠ i) (h : CN R8 R9 sv K W0 d W) (hg : Gr W W') : CN R8 R9 sv K W0 (updB d i) W' := by
  refine ⟨h.kept.trans (Kept.of_below hg), by rw [uB_ne d h2]; exact hg.cells h.b8, ?_, h.ne⟩
  rw [uB_ne d h3]
  obtain ⟨v0, v1, v2, k1, k2⟩ := h.b9
  exact ⟨v0, v1, v2, hg.cells k1, fun hd => hKg _ _ _ hg (k2 hd)⟩
theorem CN.o8 {R8 R9 : Nat} {sv : Array Value} {K : World → Value → Prop} {W0 W : World} {d : Nat → Bool} (h : CN R8 R9 sv K W0 d W) (hd : d 10 = false) : W.heap[R8]? = some (.cells #[.slice none 0 0, .slice none 0 0] 34 (0, 0)) := by
  have := h.b8; rw [hd] at this; exact this
theorem CN.st {R8 R9 : Nat} {v0 v1 : Value} {K : World → Value → Prop} {W0 W : World} {d : Nat → Bool} (hKk : ∀ w w' v, Kept (fun k => k = R8 ∨ k = R9) w w' → K w v → K w' v) (h : CN R8 R9 #[v0, v1] K W0 d W) (hd : d 10 = false) : CN R8 R9 #[v0, v1] K W0 (updB d 10) ((W.setCell ⟨R8, 0, none⟩ v0).setCell ⟨R8, 1, none⟩ v1) := by
  have hne := h.ne
  have hk : Kept (fun k => k = R8 ∨ k = R9) W ((W.setCell ⟨R8, 0, none⟩ v0).setCell ⟨R8, 1, none⟩ v1) := (Kept.setCell (D := fun k => k = R8 ∨ k = R9) (p := ⟨R8, 0, none⟩) _ (.inl rfl) _).trans (Kept.setCell (D := fun k => k = R8 ∨ k = R9) (p := ⟨R8, 1, none⟩) _ (.inl rfl) _)
  obtain ⟨u0, u1, u2, k1, k2⟩ := h.b9
  refine ⟨h.kept.trans hk, ?_, ?_, h.ne⟩
  · rw [uB_self]; exact (heap_set (heap_set (h.o8 hd) 0 v0) 1 v1).trans rfl
  · rw [uB_ne d (by decide : (11 : Nat) ≠ 10)]
    exact ⟨u0, u1, u2, (heap_set_ne (Ne.symm hne)).trans ((heap_set_ne (Ne.symm hne)).trans k1), fun hd => hKk _ _ _ hk (k2 hd)⟩
theorem CN.rs {R8 R9 : Nat} {x0 x1 x2 : Value} {sv : Array Value} {K : World → Value → Prop} {W0 W : World} {d : Nat → Bool} (hKk : ∀ w w' v, Kept (fun k => k = R8 ∨ k = R9) w w' → K w v → K w' v) (h : CN R8 R9 sv K W0 d W) (hv : K W (.agg #[x0, x1, x2])) : CN R8 R9 sv K W0 (updB d 11) (((W.setCell ⟨R9, 0, none⟩ x0).setCell ⟨R9, 1, none⟩ x1).setCell ⟨R9, 2, none⟩ x2) := by
  have hne := h.ne
  have hk := kept3k (fun k => k = R8 ∨ k = R9) W (b := R9) (.inr rfl) x0 x1 x2
  obtain ⟨u0, u1, u2, k1, k2⟩ := h.b9
  refine ⟨h.kept.trans hk, ?_, ?_, h.ne⟩
  · rw [uB_ne d (by decide : (10 : Nat) ≠ 11)]; exact (heap_set_ne hne).trans ((heap_set_ne hne).trans ((heap_set_ne hne).trans h.b8))
  · exact ⟨x0, x1, x2, (heap_set (heap_set (heap_set k1 0 x0) 1 x1) 2 x2).trans rfl, fun _ => hKk _ _ _ hk hv⟩

def k5_atmN (B10 B11 R8 R9 M : Nat) (s0 s1 : Value) (i0 i1 : Int) (px : Option Addr) (cx : Nat) (data : List Int) : World → Value → Prop := fun w v => ∃ g, v = .slice (some ⟨g, 0, none⟩) 0 0 ∧ M ≤ g ∧ w.heap[g]? = some (.cells #[] 3 (0, 0))
def k8_atmN (B10 B11 R8 R9 M : Nat) (s0 s1 : Value) (i0 i1 : Int) (px : Option Addr) (cx : Nat) (data : List Int) : World → Value → Prop := fun w v => ∃ g c, v = .slice (some ⟨g, 0, none⟩) data.length c ∧ M ≤ g ∧ ORow 3 1 w g c data.length (data.map (Value.int .i64)) ∧ data.length ≤ c ∧ c ≤ 9223372036854775807
def k9_atmN (B10 B11 R8 R9 M : Nat) (s0 s1 : Value) (i0 i1 : Int) (px : Option Addr) (cx : Nat) (data : List Int) : World → Value → Prop := fun w v => ∃ g c, v = .agg #[.int .i64 i0, .int .i64 i1, .slice (some ⟨g, 0, none⟩) data.length c] ∧ M ≤ g ∧ ORow 3 1 w g c data.length (data.map (Value.int .i64)) ∧ data.length ≤ c ∧ c ≤ 9223372036854775807

def fl_atmN (B10 B11 R8 R9 M : Nat) (s0 s1 : Value) (i0 i1 : Int) (px : Option Addr) (cx : Nat) (data : List Int) : List Fact := [
  fIs 41 (.agg #[s0, s1]),
  fIs 42 (.pointer (some ⟨B11, 0, none⟩)),
  fIs 43 (.int .i64 i0),
  fIs 44 (.pointer (some ⟨B11, 1, none⟩)),
  fIs 45 (.int .i64 i1),
  fK 46 (k5_atmN B10 B11 R8 R9 M s0 s1 i0 i1 px cx data),
  fIs 47 (.pointer (some ⟨B11, 2, none⟩)),
  fIs 48 (.slice px data.length cx),
  fK 49 (k8_atmN B10 B11 R8 R9 M s0 s1 i0 i1 px cx data),
  fK 50 (k9_atmN B10 B11 R8 R9 M s0 s1 i0 i1 px cx data),
  ⟨[], [], fun _ _ _ => True⟩,
  ⟨[], [], fun _ _ _ => True⟩]

theorem st_atmN (B10 B11 R8 R9 M : Nat) (s0 s1 : Value) (i0 i1 : Int) (px : Option Addr) (cx : Nat) (data : List Int) : ∀ F ∈ fl_atmN B10 B11 R8 R9 M s0 s1 i0 i1 px cx data, F.Stab :=
  stab_cons (fIs_stab _ _) <|
  stab_cons (fIs_stab _ _) <|
  stab_cons (fIs_stab _ _) <|
  stab_cons (fIs_stab _ _) <|
  stab_cons (fIs_stab _ _) <|
  stab_cons (fK_stab (by rintro w w' v hg ⟨g, h1, h2, h3⟩; exact ⟨g, h1, h2, hg.cells h3⟩)) <|
  stab_cons (fIs_stab _ _) <|
  stab_cons (fIs_stab _ _) <|
  stab_cons (fK_stab (by rintro w w' v hg ⟨g, c, h1, h2, h3, h4⟩; exact ⟨g, c, h1, h2, h3.gr hg, h4⟩)) <|
  stab_cons (fK_stab (by rintro w w' v hg ⟨g, c, h1, h2, h3, h4⟩; exact ⟨g, c, h1, h2, h3.gr hg, h4⟩)) <|
  stab_cons (fun _ _ _ _ _ h => h) <|
  stab_cons (fun _ _ _ _ _ h => h) stab_nil

theorem kept_atmN (B10 B11 R8 R9 M : Nat) (s0 s1 : Value) (i0 i1 : Int) (px : Option Addr) (cx : Nat) (data : List Int) (h8 : R8 < M) (h9 : R9 < M) : ∀ j, ([] : List Nat).contains j = false → ∀ s d w w', Kept (fun k => k = R8 ∨ k = R9) w w' → (factsOf (fl_atmN B10 B11 R8 R9 M s0 s1 i0 i1 px cx data) j).body s d w → (factsOf (fl_atmN B10 B11 R8 R9 M s0 s1 i0 i1 px cx data) j).body s d w' := by
  intro j _ s d w w' hk hb
  rcases j with _ | _ | _ | _ | _ | _ | _ | _ | _ | _ | _ | _ | j
  case succ.succ.succ.succ.succ.zero =>
    obtain ⟨g, h1, h2, h3⟩ := hb
    exact ⟨g, h1, h2, (hk.block g (heap_lt h3) (by omega)).trans h3⟩
  case succ.succ.succ.succ.succ.succ.succ.succ.zero =>
    obtain ⟨g, c, h1, h2, h3, h4⟩ := hb
    exact ⟨g, c, h1, h2, h3.of (hk.block g h3.lt (by omega)), h4⟩
  case succ.succ.succ.succ.succ.succ.succ.succ.succ.zero =>
    obtain ⟨g, c, h1, h2, h3, h4⟩ := hb
    exact ⟨g, c, h1, h2, h3.of (hk.block g h3.lt (by omega)), h4⟩
  all_goals exact hb

theorem atmZ_no' {ms : List Rng} {s : Stt} {who : Int} {r : Req} (h : atmOkB ms s who r = false) : atmZ ms s who r = (⟨[], []⟩, ⟨0, 0, []⟩) := by unfold atmZ; rw [h]; rfl
theorem atmZ_ok' {ms : List Rng} {s : Stt} {who : Int} {r : Req} (h : atmOkB ms s who r = true) : atmZ ms s who r = atmDo ms s who r := by unfold atmZ; rw [h]; rfl
theorem atmDo_len {ms : List Rng} {s : Stt} {who : Int} {r : Req} (h : atmOkB ms s who r = true) : (atmDo ms s who r).1.words.length = s.words.length ∧ (atmDo ms s who r).1.holds.length = s.holds.length ∧ (atmDo ms s who r).2.data.length ≤ 4 := by
  have h1 := (stOk_iff _).1 (atmDo_ok h)
  have h2 := (rspOk_iff _).1 (atmDo_rsp h).1
  obtain ⟨_, hw, hh, _⟩ := atmOk_parts h
  exact ⟨by rw [h1.1.1, memOk_len hw], by rw [h1.2.1, hh], h2.2.2.1⟩

set_option maxRecDepth 100000 in
set_option maxHeartbeats 2000000 in
theorem spec_AtmDo : AtmDoF 30 := by
  intro a cap ms s pw ph cw ch who r pd pl cd cl w hm hc hc' hs hr
  have HM := Hid.intro hm
  have HS := Hid.intro hs
  have HR := Hid.intro hr
  have HRQ := Hid.intro (fun W h => spec_ReqOk r pd pl cd cl W h)
  have HAK := Hid.intro (fun W h => spec_AtmOk s pw ph cw ch W h)
  have HC0 := Hid.intro (fun W h h1 h2 => spec_l4Copy s pw ph cw ch W h h1 h2)
  have HD0 := Hid.intro (fun (hok : atmOkB ms s who r = true) g c g' c' W h1 h2 h3 h4 h5 h6 => l4Do_any w a cap ms g c g' c' s.words s.holds who r pd pl cd cl W h1 hm hc hc' hr h2 h3 h4 h5 h6 hok)
  clear hm hs hr
  generalize hzz0 : atmZ ms s who r = z
  have HZZ := Hid.intro hzz0
  clear hzz0
  unfold stV reqV
  unfold stV at HC0 HAK
  unfold reqV at HRQ HD0
  go_enter Tryz.func30, Tryz.ntmps30
  go_wp2_with fail
  obtain ⟨W0, hW0⟩ : ∃ W0, (((w.alloc (.cells #[.slice pw s.words.length cw, .slice ph s.holds.length ch] 34)).alloc (.cells #[.int .i64 r.id, .int .i64 r.kind, .int .i64 r.addr, .int .i64 r.many, .bool r.wrap, .slice pd r.data.length cd, .slice pl r.lanes.length cl] 66)).alloc (.cells #[.slice none 0 0, .slice none 0 0] 34)).alloc (.cells #[.int .i64 0, .int .i64 0, .slice none 0 0] 63) = W0 := ⟨_, rfl⟩
  have hb0 : Below w.heap.size w W0 := by rw [← hW0]; exact ((((Below.refl _ w).alloc (Nat.le_refl _) _).alloc (by simp) _).alloc (by simp <;> omega) _).alloc (by simp <;> omega) _
  have h50 : W0.heap[w.heap.size]? = some (.cells #[.slice pw s.words.length cw, .slice ph s.holds.length ch] 34 (0, 0)) := by rw [← hW0]; exact (Below.heap_alloc _ _ _ (by simp <;> omega)).trans ((Below.heap_alloc _ _ _ (by simp <;> omega)).trans ((Below.heap_alloc _ _ _ (by simp)).trans (nw_at _ rfl)))
  have h70 : W0.heap[w.heap.size + 1]? = some (.cells #[.int .i64 r.id, .int .i64 r.kind, .int .i64 r.addr, .int .i64 r.many, .bool r.wrap, .slice pd r.data.length cd, .slice pl r.lanes.length cl] 66 (0, 0)) := by rw [← hW0]; exact (Below.heap_alloc _ _ _ (by simp <;> omega)).trans ((Below.heap_alloc _ _ _ (by simp)).trans (nw_at _ (by simp)))
  have h80 : W0.heap[w.heap.size + 1 + 1]? = some (.cells #[.slice none 0 0, .slice none 0 0] 34 (0, 0)) := by rw [← hW0]; exact (Below.heap_alloc _ _ _ (by simp)).trans (nw_at _ (by simp))
  have h90 : W0.heap[w.heap.size + 1 + 1 + 1]? = some (.cells #[.int .i64 0, .int .i64 0, .slice none 0 0] 63 (0, 0)) := by rw [← hW0]; exact nw_at _ (by simp)
  rw [hW0]
  clear hW0
  refine (spec_MapOk a cap ms W0 (HM.out.below hb0) hc hc').mono ?_
  rintro e w1 ⟨rfl, hb1⟩
  have h51 := (hb1.block _ (heap_lt h50)).trans h50
  have h71 := (hb1.block _ (heap_lt h70)).trans h70
  have h81 := (hb1.block _ (heap_lt h80)).trans h80
  have h91 := (hb1.block _ (heap_lt h90)).trans h90
  have hb1' := hb0.trans (hb1.mono hb0.size)
  clear hb1 hb0 h50 h70 h80 h90
  cases hmo : mapOkB ms
  · have HN := Hid.intro (atmZ_no' (ms := ms) (s := s) (who := who) (r := r) (by simp [atmOkB, hmo]))
    have r0 : w1.cell? ⟨w.heap.size + 1 + 1, 0, none⟩ = some (.slice none 0 0) := heap_cell h81 0
    have r1 : w1.cell? ⟨w.heap.size + 1 + 1, 1, none⟩ = some (.slice none 0 0) := heap_cell h81 1
    have r2 : w1.cell? ⟨w.heap.size + 1 + 1 + 1, 0, none⟩ = some (.int .i64 0) := heap_cell h91 0
    have r3 : w1.cell? ⟨w.heap.size + 1 + 1 + 1, 1, none⟩ = some (.int .i64 0) := heap_cell h91 1
    have r4 : w1.cell? ⟨w.heap.size + 1 + 1 + 1, 2, none⟩ = some (.slice none 0 0) := heap_cell h91 2
    have f0 := heap_free h81 0
    have f1 := heap_free h81 1
    have f2 := heap_free h91 0
    have f3 := heap_free h91 1
    have f4 := heap_free h91 2
    have hl8 := heap_lt h81
    have hl9 := heap_lt h91
    have p8 := pair8 (R8 := w.heap.size + 1 + 1) (R9 := w.heap.size + 1 + 1 + 1) h81 (by omega) (.slice none 0 0) (.slice none 0 0) (.int .i64 0) (.int .i64 0) (.slice none 0 0)
    have p9 := pair9 (R8 := w.heap.size + 1 + 1) (R9 := w.heap.size + 1 + 1 + 1) h91 (by omega) (.slice none 0 0) (.slice none 0 0) (.int .i64 0) (.int .i64 0) (.slice none 0 0)
    have HK := Hid.intro (pairK w1 (w.heap.size + 1 + 1) (w.heap.size + 1 + 1 + 1) (.slice none 0 0) (.slice none 0 0) (.int .i64 0) (.int .i64 0) (.slice none 0 0))
    have s0 := heap_cell p8 0
    have s1 := heap_cell p8 1
    have y0 := heap_cell p9 0
    have y1 := heap_cell p9 1
    have y2 := heap_cell p9 2
    simp [pairW] at s0 s1 y0 y1 y2
    have HP8 := Hid.intro p8
    clear p8 p9 h81 h91
    go_wp2
    refine bodyPost_ret (v := .tuple #[.agg #[.slice none 0 0, .slice none 0 0], .agg #[.int .i64 0, .int .i64 0, .slice none 0 0]]) (by simp [results, Tryz.results30, go_sem, s0, s1, y0, y1, y2]) rfl ?_
    rw [← HZZ.out, HN.out]
    have hK := HK.out
    have hsz := hb1'.size
    exact ⟨none, 0, none, 0, none, 0, rfl, ⟨.inl rfl, .inl rfl, .inl rfl, Nat.le_refl _, by omega, Nat.le_refl _, by omega, Nat.le_refl _, by omega, .inl rfl, .inl rfl, .inl rfl⟩, hK.os.trans hb1'.os, hK.tape.trans hb1'.tape, hK.output.trans hb1'.output, Nat.le_trans hsz hK.size, fun k hk => (hK.block k (by omega) (by omega)).trans (hb1'.block k hk)⟩
  have c0 : w1.cell? ⟨w.heap.size, 0, none⟩ = some (.slice pw s.words.length cw) := heap_cell h51 0
  have c1 : w1.cell? ⟨w.heap.size, 1, none⟩ = some (.slice ph s.holds.length ch) := heap_cell h51 1
  go_wp2_with fail
  refine (HAK.out w1 (HS.out.below hb1')).mono ?_
  rintro e w2 ⟨rfl, hb2⟩
  have h52 := (hb2.block _ (heap_lt h51)).trans h51
  have h72 := (hb2.block _ (heap_lt h71)).trans h71
  have h82 := (hb2.block _ (heap_lt h81)).trans h81
  have h92 := (hb2.block _ (heap_lt h91)).trans h91
  have hb2' := hb1'.trans (hb2.mono hb1'.size)
  clear hb2 hb1' h51 h71 h81 h91 c0 c1 HAK
  cases hst : stOkB s
  · have HN := Hid.intro (atmZ_no' (ms := ms) (s := s) (who := who) (r := r) (by simp [atmOkB, hst]))
    have r0 : w2.cell? ⟨w.heap.size + 1 + 1, 0, none⟩ = some (.slice none 0 0) := heap_cell h82 0
    have r1 : w2.cell? ⟨w.heap.size + 1 + 1, 1, none⟩ = some (.slice none 0 0) := heap_cell h82 1
    have r2 : w2.cell? ⟨w.heap.size + 1 + 1 + 1, 0, none⟩ = some (.int .i64 0) := heap_cell h92 0
    have r3 : w2.cell? ⟨w.heap.size + 1 + 1 + 1, 1, none⟩ = some (.int .i64 0) := heap_cell h92 1
    have r4 : w2.cell? ⟨w.heap.size + 1 + 1 + 1, 2, none⟩ = some (.slice none 0 0) := heap_cell h92 2
    have f0 := heap_free h82 0
    have f1 := heap_free h82 1
    have f2 := heap_free h92 0
    have f3 := heap_free h92 1
    have f4 := heap_free h92 2
    have hl8 := heap_lt h82
    have hl9 := heap_lt h92
    have p8 := pair8 (R8 := w.heap.size + 1 + 1) (R9 := w.heap.size + 1 + 1 + 1) h82 (by omega) (.slice none 0 0) (.slice none 0 0) (.int .i64 0) (.int .i64 0) (.slice none 0 0)
    have p9 := pair9 (R8 := w.heap.size + 1 + 1) (R9 := w.heap.size + 1 + 1 + 1) h92 (by omega) (.slice none 0 0) (.slice none 0 0) (.int .i64 0) (.int .i64 0) (.slice none 0 0)
    have HK := Hid.intro (pairK w2 (w.heap.size + 1 + 1) (w.heap.size + 1 + 1 + 1) (.slice none 0 0) (.slice none 0 0) (.int .i64 0) (.int .i64 0) (.slice none 0 0))
    have s0 := heap_cell p8 0
    have s1 := heap_cell p8 1
    have y0 := heap_cell p9 0
    have y1 := heap_cell p9 1
    have y2 := heap_cell p9 2
    simp [pairW] at s0 s1 y0 y1 y2
    have HP8 := Hid.intro p8
    clear p8 p9 h82 h92
    go_wp2
    refine bodyPost_ret (v := .tuple #[.agg #[.slice none 0 0, .slice none 0 0], .agg #[.int .i64 0, .int .i64 0, .slice none 0 0]]) (by simp [results, Tryz.results30, go_sem, s0, s1, y0, y1, y2]) rfl ?_
    rw [← HZZ.out, HN.out]
    have hK := HK.out
    have hsz := hb2'.size
    exact ⟨none, 0, none, 0, none, 0, rfl, ⟨.inl rfl, .inl rfl, .inl rfl, Nat.le_refl _, by omega, Nat.le_refl _, by omega, Nat.le_refl _, by omega, .inl rfl, .inl rfl, .inl rfl⟩, hK.os.trans hb2'.os, hK.tape.trans hb2'.tape, hK.output.trans hb2'.output, Nat.le_trans hsz hK.size, fun k hk => (hK.block k (by omega) (by omega)).trans (hb2'.block k hk)⟩
  cases hin : inB who 0 2
  · have HN := Hid.intro (atmZ_no' (ms := ms) (s := s) (who := who) (r := r) (by simp [atmOkB, hin]))
    have r0 : w2.cell? ⟨w.heap.size + 1 + 1, 0, none⟩ = some (.slice none 0 0) := heap_cell h82 0
    have r1 : w2.cell? ⟨w.heap.size + 1 + 1, 1, none⟩ = some (.slice none 0 0) := heap_cell h82 1
    have r2 : w2.cell? ⟨w.heap.size + 1 + 1 + 1, 0, none⟩ = some (.int .i64 0) := heap_cell h92 0
    have r3 : w2.cell? ⟨w.heap.size + 1 + 1 + 1, 1, none⟩ = some (.int .i64 0) := heap_cell h92 1
    have r4 : w2.cell? ⟨w.heap.size + 1 + 1 + 1, 2, none⟩ = some (.slice none 0 0) := heap_cell h92 2
    have f0 := heap_free h82 0
    have f1 := heap_free h82 1
    have f2 := heap_free h92 0
    have f3 := heap_free h92 1
    have f4 := heap_free h92 2
    have hl8 := heap_lt h82
    have hl9 := heap_lt h92
    have p8 := pair8 (R8 := w.heap.size + 1 + 1) (R9 := w.heap.size + 1 + 1 + 1) h82 (by omega) (.slice none 0 0) (.slice none 0 0) (.int .i64 0) (.int .i64 0) (.slice none 0 0)
    have p9 := pair9 (R8 := w.heap.size + 1 + 1) (R9 := w.heap.size + 1 + 1 + 1) h92 (by omega) (.slice none 0 0) (.slice none 0 0) (.int .i64 0) (.int .i64 0) (.slice none 0 0)
    have HK := Hid.intro (pairK w2 (w.heap.size + 1 + 1) (w.heap.size + 1 + 1 + 1) (.slice none 0 0) (.slice none 0 0) (.int .i64 0) (.int .i64 0) (.slice none 0 0))
    have s0 := heap_cell p8 0
    have s1 := heap_cell p8 1
    have y0 := heap_cell p9 0
    have y1 := heap_cell p9 1
    have y2 := heap_cell p9 2
    simp [pairW] at s0 s1 y0 y1 y2
    have HP8 := Hid.intro p8
    clear p8 p9 h82 h92
    go_wp2_with (go_at_call 27; refine (in_any _ _ _ _).mono ?_; rintro e w' ⟨rfl, hw⟩; replace hw := hw.symm; subst hw)
    refine bodyPost_ret (v := .tuple #[.agg #[.slice none 0 0, .slice none 0 0], .agg #[.int .i64 0, .int .i64 0, .slice none 0 0]]) (by simp [results, Tryz.results30, go_sem, s0, s1, y0, y1, y2]) rfl ?_
    rw [← HZZ.out, HN.out]
    have hK := HK.out
    have hsz := hb2'.size
    exact ⟨none, 0, none, 0, none, 0, rfl, ⟨.inl rfl, .inl rfl, .inl rfl, Nat.le_refl _, by omega, Nat.le_refl _, by omega, Nat.le_refl _, by omega, .inl rfl, .inl rfl, .inl rfl⟩, hK.os.trans hb2'.os, hK.tape.trans hb2'.tape, hK.output.trans hb2'.output, Nat.le_trans hsz hK.size, fun k hk => (hK.block k (by omega) (by omega)).trans (hb2'.block k hk)⟩
  have q0 : w2.cell? ⟨w.heap.size + 1, 0, none⟩ = some (.int .i64 r.id) := heap_cell h72 0
  have q1 : w2.cell? ⟨w.heap.size + 1, 1, none⟩ = some (.int .i64 r.kind) := heap_cell h72 1
  have q2 : w2.cell? ⟨w.heap.size + 1, 2, none⟩ = some (.int .i64 r.addr) := heap_cell h72 2
  have q3 : w2.cell? ⟨w.heap.size + 1, 3, none⟩ = some (.int .i64 r.many) := heap_cell h72 3
  have q4 : w2.cell? ⟨w.heap.size + 1, 4, none⟩ = some (.bool r.wrap) := heap_cell h72 4
  have q5 : w2.cell? ⟨w.heap.size + 1, 5, none⟩ = some (.slice pd r.data.length cd) := heap_cell h72 5
  have q6 : w2.cell? ⟨w.heap.size + 1, 6, none⟩ = some (.slice pl r.lanes.length cl) := heap_cell h72 6
  go_wp2_with (go_at_call 27; refine (in_any _ _ _ _).mono ?_; rintro e w' ⟨rfl, hw⟩; replace hw := hw.symm; subst hw)
  refine (HRQ.out w2 (HR.out.below hb2')).mono ?_
  rintro e w3 ⟨rfl, hb3⟩
  have h53 := (hb3.block _ (heap_lt h52)).trans h52
  have h73 := (hb3.block _ (heap_lt h72)).trans h72
  have h83 := (hb3.block _ (heap_lt h82)).trans h82
  have h93 := (hb3.block _ (heap_lt h92)).trans h92
  have hb3' := hb2'.trans (hb3.mono hb2'.size)
  clear hb3 hb2' h52 h72 h82 h92 q0 q1 q2 q3 q4 q5 q6 HRQ
  cases hrq : reqOkB r
  · have HN := Hid.intro (atmZ_no' (ms := ms) (s := s) (who := who) (r := r) (by simp [atmOkB, hrq]))
    have r0 : w3.cell? ⟨w.heap.size + 1 + 1, 0, none⟩ = some (.slice none 0 0) := heap_cell h83 0
    have r1 : w3.cell? ⟨w.heap.size + 1 + 1, 1, none⟩ = some (.slice none 0 0) := heap_cell h83 1
    have r2 : w3.cell? ⟨w.heap.size + 1 + 1 + 1, 0, none⟩ = some (.int .i64 0) := heap_cell h93 0
    have r3 : w3.cell? ⟨w.heap.size + 1 + 1 + 1, 1, none⟩ = some (.int .i64 0) := heap_cell h93 1
    have r4 : w3.cell? ⟨w.heap.size + 1 + 1 + 1, 2, none⟩ = some (.slice none 0 0) := heap_cell h93 2
    have f0 := heap_free h83 0
    have f1 := heap_free h83 1
    have f2 := heap_free h93 0
    have f3 := heap_free h93 1
    have f4 := heap_free h93 2
    have hl8 := heap_lt h83
    have hl9 := heap_lt h93
    have p8 := pair8 (R8 := w.heap.size + 1 + 1) (R9 := w.heap.size + 1 + 1 + 1) h83 (by omega) (.slice none 0 0) (.slice none 0 0) (.int .i64 0) (.int .i64 0) (.slice none 0 0)
    have p9 := pair9 (R8 := w.heap.size + 1 + 1) (R9 := w.heap.size + 1 + 1 + 1) h93 (by omega) (.slice none 0 0) (.slice none 0 0) (.int .i64 0) (.int .i64 0) (.slice none 0 0)
    have HK := Hid.intro (pairK w3 (w.heap.size + 1 + 1) (w.heap.size + 1 + 1 + 1) (.slice none 0 0) (.slice none 0 0) (.int .i64 0) (.int .i64 0) (.slice none 0 0))
    have s0 := heap_cell p8 0
    have s1 := heap_cell p8 1
    have y0 := heap_cell p9 0
    have y1 := heap_cell p9 1
    have y2 := heap_cell p9 2
    simp [pairW] at s0 s1 y0 y1 y2
    have HP8 := Hid.intro p8
    clear p8 p9 h83 h93
    go_wp2
    refine bodyPost_ret (v := .tuple #[.agg #[.slice none 0 0, .slice none 0 0], .agg #[.int .i64 0, .int .i64 0, .slice none 0 0]]) (by simp [results, Tryz.results30, go_sem, s0, s1, y0, y1, y2]) rfl ?_
    rw [← HZZ.out, HN.out]
    have hK := HK.out
    have hsz := hb3'.size
    exact ⟨none, 0, none, 0, none, 0, rfl, ⟨.inl rfl, .inl rfl, .inl rfl, Nat.le_refl _, by omega, Nat.le_refl _, by omega, Nat.le_refl _, by omega, .inl rfl, .inl rfl, .inl rfl⟩, hK.os.trans hb3'.os, hK.tape.trans hb3'.tape, hK.output.trans hb3'.output, Nat.le_trans hsz hK.size, fun k hk => (hK.block k (by omega) (by omega)).trans (hb3'.block k hk)⟩
  have HOK : Hid (atmOkB ms s who r = true) := Hid.intro (by simp [atmOkB, hmo, hst, hin, hrq])
  have hzz : atmDo ms s who r = z := (atmZ_ok' HOK.out).symm.trans HZZ.out
  obtain ⟨hlw, hlh, hld⟩ := atmDo_len HOK.out
  have hh6 := (atmOk_parts HOK.out).2.2.1
  have hw64 := memOk_len (atmOk_parts HOK.out).2.1
  have HD1 := Hid.intro (HD0.out HOK.out)
  rw [hzz] at hlw hlh hld HD1
  clear HD0 hmo hst hin hrq hzz
  go_wp2_with fail
  obtain ⟨W0, hW0⟩ : ∃ W0, W0 = w3 := ⟨_, rfl⟩
  rw [← hW0] at h53 h73 h83 h93 hb3' ⊢
  clear hW0
  have hl5 := heap_lt h53
  have hl7 := heap_lt h73
  have hl8 := heap_lt h83
  have hl9 := heap_lt h93
  have hsw := hb3'.size
  have H5 := Hid.intro h53
  have H7 := Hid.intro h73
  have H8 := Hid.intro h83
  have H9 := Hid.intro h93
  obtain ⟨K2, hK2⟩ : ∃ K2 : World → Value → Prop, K2 = fun W v => ∃ g c g' c', v = .agg #[.slice (some ⟨g, 0, none⟩) s.words.length c, .slice (some ⟨g', 0, none⟩) s.holds.length c'] ∧ ORow 3 1 W g c s.words.length (s.words.map (Value.int .i64)) ∧ s.words.length ≤ c ∧ c ≤ 9223372036854775807 ∧ ORow 3 1 W g' c' s.holds.length (s.holds.map (Value.int .i64)) ∧ s.holds.length ≤ c' ∧ c' ≤ 9223372036854775807 ∧ W0.heap.size ≤ g ∧ W0.heap.size ≤ g' ∧ g ≠ g' := ⟨_, rfl⟩
  obtain ⟨K5, hK5⟩ : ∃ K5 : World → Value → Prop, K5 = fun W v => ∃ g c g' c' px cx, v = .tuple #[.agg #[.slice (some ⟨g, 0, none⟩) s.words.length c, .slice (some ⟨g', 0, none⟩) s.holds.length c'], .agg #[.int .i64 z.2.id, .int .i64 z.2.code, .slice px z.2.data.length cx]] ∧ ORow 3 1 W g c s.words.length (z.1.words.map (Value.int .i64)) ∧ s.words.length ≤ c ∧ c ≤ 9223372036854775807 ∧ ORow 3 1 W g' c' s.holds.length (z.1.holds.map (Value.int .i64)) ∧ s.holds.length ≤ c' ∧ c' ≤ 9223372036854775807 ∧ W0.heap.size ≤ g ∧ W0.heap.size ≤ g' ∧ g ≠ g' ∧ OwnN W0.heap.size W px cx z.2.data ∧ z.2.data.length ≤ cx ∧ cx ≤ 9223372036854775807 := ⟨_, rfl⟩
  have h2g : ∀ w w' v, Gr w w' → K2 w v → K2 w' v := by
    rw [hK2]; rintro w w' v hg ⟨g, c, g', c', e, o1, l1, m1, o2, x⟩; exact ⟨g, c, g', c', e, o1.gr hg, l1, m1, o2.gr hg, x⟩
  have h5g : ∀ w w' v, Gr w w' → K5 w v → K5 w' v := by
    rw [hK5]; rintro w w' v hg ⟨g, c, g', c', px, cx, e, o1, l1, m1, o2, l2, m2, a1, a2, a3, o3, x⟩; exact ⟨g, c, g', c', px, cx, e, o1.gr hg, l1, m1, o2.gr hg, l2, m2, a1, a2, a3, o3.below hg, x⟩
  have h2t8 : ∀ w w' v, KT 34 w w' → K2 w v → K2 w' v := by
    rw [hK2]; rintro w w' v hg ⟨g, c, g', c', e, o1, l1, m1, o2, x⟩; exact ⟨g, c, g', c', e, o1.kt hg (by decide), l1, m1, o2.kt hg (by decide), x⟩
  have h2t9 : ∀ w w' v, KT 63 w w' → K2 w v → K2 w' v := by
    rw [hK2]; rintro w w' v hg ⟨g, c, g', c', e, o1, l1, m1, o2, x⟩; exact ⟨g, c, g', c', e, o1.kt hg (by decide), l1, m1, o2.kt hg (by decide), x⟩
  have h5t8 : ∀ w w' v, KT 34 w w' → K5 w v → K5 w' v := by
    rw [hK5]; rintro w w' v hg ⟨g, c, g', c', px, cx, e, o1, l1, m1, o2, l2, m2, a1, a2, a3, o3, x⟩; exact ⟨g, c, g', c', px, cx, e, o1.kt hg (by decide), l1, m1, o2.kt hg (by decide), l2, m2, a1, a2, a3, o3.kt hg (by decide), x⟩
  have h5t9 : ∀ w w' v, KT 63 w w' → K5 w v → K5 w' v := by
    rw [hK5]; rintro w w' v hg ⟨g, c, g', c', px, cx, e, o1, l1, m1, o2, l2, m2, a1, a2, a3, o3, x⟩; exact ⟨g, c, g', c', px, cx, e, o1.kt hg (by decide), l1, m1, o2.kt hg (by decide), l2, m2, a1, a2, a3, o3.kt hg (by decide), x⟩
  have h5t : ∀ W v, K5 W v → ∃ va vb, v = .tuple #[va, vb] := by
    rw [hK5]; rintro W v ⟨g, c, g', c', px, cx, e, _⟩; exact ⟨_, _, e⟩
  have h5s : ∀ W v, K5 W v → ∃ p0 n0 k0 p1 n1 k1 v2, v = .tuple #[.agg #[.slice p0 n0 k0, .slice p1 n1 k1], v2] := by
    rw [hK5]; rintro W v ⟨g, c, g', c', px, cx, e, _⟩; exact ⟨_, _, _, _, _, _, _, e⟩
  have h5x : ∀ W v, K5 W v → ∃ va i0 i1 p2 n2 k2, v = .tuple #[va, .agg #[.int .i64 i0, .int .i64 i1, .slice p2 n2 k2]] := by
    rw [hK5]; rintro W v ⟨g, c, g', c', px, cx, e, _⟩; exact ⟨_, _, _, _, _, _, e⟩
  have HCP : Hid (∀ W, Below W0.heap.size W0 W → Calls Tryz.prog 29 #[.agg #[.slice pw s.words.length cw, .slice ph s.holds.length ch]] W fun e w' => (∃ v, e = .returned v ∧ K2 w' v) ∧ Below W.heap.size W w') := by
    refine Hid.intro (fun W hW => ?_)
    refine (HC0.out W (HS.out.below (hb3'.trans (hW.mono hsw))) (by omega) (by omega)).mono ?_
    rintro e w' ⟨g, c, g', c', rfl, o1, l1, m1, o2, l2, m2, a1, a2, a3, hb⟩
    have hs := hW.size
    exact ⟨⟨_, rfl, by rw [hK2]; exact ⟨g, c, g', c', rfl, o1, l1, m1, o2, l2, m2, by omega, by omega, a3 (fun e => by rw [e] at hh6; simp at hh6)⟩⟩, hb⟩
  have HDO : Hid (∀ v W, Below W0.heap.size W0 W → K2 W v → Calls Tryz.prog 53 #[.slice a ms.length cap, v, .int .i64 who, .agg #[.int .i64 r.id, .int .i64 r.kind, .int .i64 r.addr, .int .i64 r.many, .bool r.wrap, .slice pd r.data.length cd, .slice pl r.lanes.length cl]] W fun e w' => (∃ v, e = .returned v ∧ K5 w' v) ∧ KT 3 W w' ∧ Below W0.heap.size W w') := by
    refine Hid.intro (fun v W hW hv => ?_)
    rw [hK2] at hv
    obtain ⟨g, c, g', c', rfl, o1, l1, m1, o2, l2, m2, a1, a2, a3⟩ := hv
    refine (HD1.out g c g' c' W (hb3'.trans (hW.mono hsw)) (by omega) (by omega) a3 o1 o2).mono ?_
    rintro e w' ⟨px, cx, rfl, p1, p2, p3, p4, p5, p6⟩
    have hs := hW.size
    exact ⟨⟨_, rfl, by rw [hK5]; exact ⟨g, c, g', c', px, cx, rfl, p1, l1, m1, p2, l2, m2, a1, a2, a3, p3.mono hs, p4, p5⟩⟩, kept_kt p6 o1 o2, p6.os, p6.tape, p6.output, p6.size, fun k hk => p6.block k (by omega) (by omega)⟩
  have HK5 := Hid.intro hK5
  clear HC0 HD1 h53 h73 h83 h93 hK2 hK5
  refine wp_region_fl (by kernel_rfl) (fl_atmM (.slice a ms.length cap) (.agg #[.slice pw s.words.length cw, .slice ph s.holds.length ch]) (.int .i64 who) (.agg #[.int .i64 r.id, .int .i64 r.kind, .int .i64 r.addr, .int .i64 r.many, .bool r.wrap, .slice pd r.data.length cd, .slice pl r.lanes.length cl]) W0.heap.size K2 K5 w.heap.size (w.heap.size + 1)) (fun _ => Below W0.heap.size W0) [33, 34, 35, 36, 37, 38, 32, 39, 40, 10, 11] (by kernel_rfl) (by kernel_rfl) (by kernel_rfl) ?c0 ?looks ?done
  case looks =>
    intro hcl i o ho
    rcases i with _ | _ | _ | _ | _ | _ | _ | _ | _ | _ | _ | _ | _ | i
    · simp at ho; subst ho
      refine fo_det (st_atmM (.slice a ms.length cap) (.agg #[.slice pw s.words.length cw, .slice ph s.holds.length ch]) (.int .i64 who) (.agg #[.int .i64 r.id, .int .i64 r.kind, .int .i64 r.addr, .int .i64 r.many, .bool r.wrap, .slice pd r.data.length cd, .slice pl r.lanes.length cl]) W0.heap.size K2 K5 w.heap.size (w.heap.size + 1) h2g h5g) hcl rfl rfl rfl rfl (by kernel_rfl) (fun _ _ h => h) (fun done ρ W hat => ?_)
      have e0 : ρ (.tmp 0) = (.slice a ms.length cap) := hat.out 0 (by kernel_rfl)
      have hC := hat.cls
      have hc := hat.con
      simp only [execOp, e0]
      go_simp
    · simp at ho; subst ho
      refine fo_det (st_atmM (.slice a ms.length cap) (.agg #[.slice pw s.words.length cw, .slice ph s.holds.length ch]) (.int .i64 who) (.agg #[.int .i64 r.id, .int .i64 r.kind, .int .i64 r.addr, .int .i64 r.many, .bool r.wrap, .slice pd r.data.length cd, .slice pl r.lanes.length cl]) W0.heap.size K2 K5 w.heap.size (w.heap.size + 1) h2g h5g) hcl rfl rfl rfl rfl (by kernel_rfl) (fun _ _ h => h) (fun done ρ W hat => ?_)
      have e5 : ρ (.tmp 5) = .pointer (some ⟨w.heap.size, 0, none⟩) := hat.out 5 (by kernel_rfl)
      have hC := hat.cls
      have hbx := (hC.block _ hl5).trans H5.out
      have c0 := (heap_cell hbx 0).trans rfl
      have c1 := (heap_cell hbx 1).trans rfl
      have hc := hat.con
      simp only [execOp, e5]
      go_simp
    · simp at ho; subst ho
      refine fo_grow (st_atmM (.slice a ms.length cap) (.agg #[.slice pw s.words.length cw, .slice ph s.holds.length ch]) (.int .i64 who) (.agg #[.int .i64 r.id, .int .i64 r.kind, .int .i64 r.addr, .int .i64 r.many, .bool r.wrap, .slice pd r.data.length cd, .slice pl r.lanes.length cl]) W0.heap.size K2 K5 w.heap.size (w.heap.size + 1) h2g h5g) hcl rfl rfl (fun done ρ W hat => ?_)
      have e34 : ρ (.tmp 34) = (.agg #[.slice pw s.words.length cw, .slice ph s.holds.length ch]) := fIs_at (d := 34) (v := (.agg #[.slice pw s.words.length cw, .slice ph s.holds.length ch])) (hat.fact 1 (by kernel_rfl))
      have hC := hat.cls
      have hf := hat.fn
      refine up_call 29 #[.agg #[.slice pw s.words.length cw, .slice ph s.holds.length ch]] (by simp only [execOp]; go_simp) ?_
      refine (HCP.out W hC).mono ?_
      rintro e W1 ⟨⟨v, rfl, hKv⟩, hb⟩
      exact ⟨v, rfl, hC.trans (hb.mono hC.size), hb, .inr hKv, free_spec (by kernel_rfl) hat.lt⟩
    · simp at ho; subst ho
      refine fo_det (st_atmM (.slice a ms.length cap) (.agg #[.slice pw s.words.length cw, .slice ph s.holds.length ch]) (.int .i64 who) (.agg #[.int .i64 r.id, .int .i64 r.kind, .int .i64 r.addr, .int .i64 r.many, .bool r.wrap, .slice pd r.data.length cd, .slice pl r.lanes.length cl]) W0.heap.size K2 K5 w.heap.size (w.heap.size + 1) h2g h5g) hcl rfl rfl rfl rfl (by kernel_rfl) (fun _ _ h => h) (fun done ρ W hat => ?_)
      have e2 : ρ (.tmp 2) = (.int .i64 who) := hat.out 2 (by kernel_rfl)
      have hC := hat.cls
      have hc := hat.con
      simp only [execOp, e2]
      go_simp
    · simp at ho; subst ho
      refine fo_det (st_atmM (.slice a ms.length cap) (.agg #[.slice pw s.words.length cw, .slice ph s.holds.length ch]) (.int .i64 who) (.agg #[.int .i64 r.id, .int .i64 r.kind, .int .i64 r.addr, .int .i64 r.many, .bool r.wrap, .slice pd r.data.length cd, .slice pl r.lanes.length cl]) W0.heap.size K2 K5 w.heap.size (w.heap.size + 1) h2g h5g) hcl rfl rfl rfl rfl (by kernel_rfl) (fun _ _ h => h) (fun done ρ W hat => ?_)
      have e7 : ρ (.tmp 7) = .pointer (some ⟨(w.heap.size + 1), 0, none⟩) := hat.out 7 (by kernel_rfl)
      have hC := hat.cls
      have hbx := (hC.block _ hl7).trans H7.out
      have c0 := (heap_cell hbx 0).trans rfl
      have c1 := (heap_cell hbx 1).trans rfl
      have c2 := (heap_cell hbx 2).trans rfl
      have c3 := (heap_cell hbx 3).trans rfl
      have c4 := (heap_cell hbx 4).trans rfl
      have c5 := (heap_cell hbx 5).trans rfl
      have c6 := (heap_cell hbx 6).trans rfl
      have hc := hat.con
      simp only [execOp, e7]
      go_simp
    · simp at ho; subst ho
      refine fo_rel (S := KT 3) (E := [2, 5, 6]) (kt5_atmM (.slice a ms.length cap) (.agg #[.slice pw s.words.length cw, .slice ph s.holds.length ch]) (.int .i64 who) (.agg #[.int .i64 r.id, .int .i64 r.kind, .int .i64 r.addr, .int .i64 r.many, .bool r.wrap, .slice pd r.data.length cd, .slice pl r.lanes.length cl]) W0.heap.size K2 K5 w.heap.size (w.heap.size + 1)) hcl rfl rfl (fun done ρ W hat => ?_)
      have e33 : ρ (.tmp 33) = (.slice a ms.length cap) := fIs_at (d := 33) (v := (.slice a ms.length cap)) (hat.fact 0 (by kernel_rfl))
      have e36 : ρ (.tmp 36) = (.int .i64 who) := fIs_at (d := 36) (v := (.int .i64 who)) (hat.fact 3 (by kernel_rfl))
      have e37 : ρ (.tmp 37) = (.agg #[.int .i64 r.id, .int .i64 r.kind, .int .i64 r.addr, .int .i64 r.many, .bool r.wrap, .slice pd r.data.length cd, .slice pl r.lanes.length cl]) := fIs_at (d := 37) (v := (.agg #[.int .i64 r.id, .int .i64 r.kind, .int .i64 r.addr, .int .i64 r.many, .bool r.wrap, .slice pd r.data.length cd, .slice pl r.lanes.length cl])) (hat.fact 4 (by kernel_rfl))
      have hC := hat.cls
      have hf := hat.fn
      have h2 : done 5 = true ∨ K2 W (ρ (.tmp 35)) := hat.fact 2 (by kernel_rfl)
      have h2 := h2.resolve_left (by rw [hat.new]; decide)
      obtain ⟨v35, e35⟩ : ∃ v, ρ (.tmp 35) = v := ⟨_, rfl⟩
      rw [e35] at h2
      refine up_call 53 #[.slice a ms.length cap, v35, .int .i64 who, .agg #[.int .i64 r.id, .int .i64 r.kind, .int .i64 r.addr, .int .i64 r.many, .bool r.wrap, .slice pd r.data.length cd, .slice pl r.lanes.length cl]] (by simp only [execOp]; go_simp) ?_
      refine (HDO.out v35 W hC h2).mono ?_
      rintro e W1 ⟨⟨v, rfl, hKv⟩, hkt, hb⟩
      refine ⟨v, rfl, hC.trans hb, hkt, fK_mk (by rw [updV_same]; exact hKv), fun j hj hcj => ?_⟩
      rcases ask5_atmM j (hat.lt j hj) hcj with rfl | rfl | rfl
      · exact .inl rfl
      · rw [hat.new] at hj; cases hj
      · have := hat.notyet 6 (by kernel_rfl); rw [this] at hj; cases hj
    · simp at ho; subst ho
      refine fo_grow (st_atmM (.slice a ms.length cap) (.agg #[.slice pw s.words.length cw, .slice ph s.holds.length ch]) (.int .i64 who) (.agg #[.int .i64 r.id, .int .i64 r.kind, .int .i64 r.addr, .int .i64 r.many, .bool r.wrap, .slice pd r.data.length cd, .slice pl r.lanes.length cl]) W0.heap.size K2 K5 w.heap.size (w.heap.size + 1) h2g h5g) hcl rfl rfl (fun done ρ W hat => ?_)
      have hC := hat.cls
      have hK : K5 W (ρ (.tmp 38)) := fK_at (d := 38) (K := K5) (hat.fact 5 (by kernel_rfl))
      refine up_val (ρ (.tmp 38)) W (by simp only [execOp]; go_simp) ⟨hC, Gr.refl _, fK_mk (by rw [updV_same]; exact hK), free_spec (by kernel_rfl) hat.lt⟩
    · simp at ho; subst ho
      refine fo_grow (st_atmM (.slice a ms.length cap) (.agg #[.slice pw s.words.length cw, .slice ph s.holds.length ch]) (.int .i64 who) (.agg #[.int .i64 r.id, .int .i64 r.kind, .int .i64 r.addr, .int .i64 r.many, .bool r.wrap, .slice pd r.data.length cd, .slice pl r.lanes.length cl]) W0.heap.size K2 K5 w.heap.size (w.heap.size + 1) h2g h5g) hcl rfl rfl (fun done ρ W hat => ?_)
      have hC := hat.cls
      have hK : K5 W (ρ (.tmp 32)) := fK_at (d := 32) (K := K5) (hat.fact 6 (by kernel_rfl))
      obtain ⟨va, vb, e32⟩ := h5t _ _ hK
      refine up_val va W (by simp only [execOp]; go_simp) ⟨hC, Gr.refl _, ⟨vb, ?_⟩, free_spec (by kernel_rfl) hat.lt⟩
      exact e32
    · simp at ho; subst ho
      refine fo_grow (st_atmM (.slice a ms.length cap) (.agg #[.slice pw s.words.length cw, .slice ph s.holds.length ch]) (.int .i64 who) (.agg #[.int .i64 r.id, .int .i64 r.kind, .int .i64 r.addr, .int .i64 r.many, .bool r.wrap, .slice pd r.data.length cd, .slice pl r.lanes.length cl]) W0.heap.size K2 K5 w.heap.size (w.heap.size + 1) h2g h5g) hcl rfl rfl (fun done ρ W hat => ?_)
      have hC := hat.cls
      have hK : K5 W (ρ (.tmp 32)) := fK_at (d := 32) (K := K5) (hat.fact 6 (by kernel_rfl))
      obtain ⟨va, vb, e32⟩ := h5t _ _ hK
      refine up_val vb W (by simp only [execOp]; go_simp) ⟨hC, Gr.refl _, ⟨va, ?_⟩, free_spec (by kernel_rfl) hat.lt⟩
      exact e32
    · simp at ho; subst ho
      refine fo_grow (st_atmM (.slice a ms.length cap) (.agg #[.slice pw s.words.length cw, .slice ph s.holds.length ch]) (.int .i64 who) (.agg #[.int .i64 r.id, .int .i64 r.kind, .int .i64 r.addr, .int .i64 r.many, .bool r.wrap, .slice pd r.data.length cd, .slice pl r.lanes.length cl]) W0.heap.size K2 K5 w.heap.size (w.heap.size + 1) h2g h5g) hcl rfl rfl (fun done ρ W hat => ?_)
      have hC := hat.cls
      refine up_val (.pointer (some ⟨W.heap.size, 0, none⟩)) (W.alloc (.cells #[.slice none 0 0, .slice none 0 0] 34)) (by simp only [execOp]; go_simp) ⟨hC.trans ((below_nw _ _).mono hC.size), below_nw _ _, ⟨W.heap.size, _, _, ?_, hC.size, nw_at _ rfl⟩, free_spec (by kernel_rfl) hat.lt⟩
      exact rfl
    · simp at ho; subst ho
      refine fo_grow (st_atmM (.slice a ms.length cap) (.agg #[.slice pw s.words.length cw, .slice ph s.holds.length ch]) (.int .i64 who) (.agg #[.int .i64 r.id, .int .i64 r.kind, .int .i64 r.addr, .int .i64 r.many, .bool r.wrap, .slice pd r.data.length cd, .slice pl r.lanes.length cl]) W0.heap.size K2 K5 w.heap.size (w.heap.size + 1) h2g h5g) hcl rfl rfl (fun done ρ W hat => ?_)
      have hC := hat.cls
      refine up_val (.pointer (some ⟨W.heap.size, 0, none⟩)) (W.alloc (.cells #[.int .i64 0, .int .i64 0, .slice none 0 0] 63)) (by simp only [execOp]; go_simp) ⟨hC.trans ((below_nw _ _).mono hC.size), below_nw _ _, ⟨W.heap.size, _, _, _, ?_, hC.size, nw_at _ rfl⟩, free_spec (by kernel_rfl) hat.lt⟩
      exact rfl
    · simp at ho; subst ho
      refine fo_rel (S := KT 34) (E := [9, 11]) (kt11_atmM (.slice a ms.length cap) (.agg #[.slice pw s.words.length cw, .slice ph s.holds.length ch]) (.int .i64 who) (.agg #[.int .i64 r.id, .int .i64 r.kind, .int .i64 r.addr, .int .i64 r.many, .bool r.wrap, .slice pd r.data.length cd, .slice pl r.lanes.length cl]) W0.heap.size K2 K5 w.heap.size (w.heap.size + 1) h2t8 h5t8) hcl rfl rfl (fun done ρ W hat => ?_)
      have hC := hat.cls
      have hK : K5 W (ρ (.tmp 32)) := fK_at (d := 32) (K := K5) (hat.fact 6 (by kernel_rfl))
      obtain ⟨bb, e39⟩ := hat.fact 7 (by kernel_rfl)
      obtain ⟨b, o0, o1, e10, hMb, hbx⟩ := hat.fact 9 (by kernel_rfl)
      have e39 : ρ (.tmp 32) = .tuple #[ρ (.tmp 39), bb] := e39
      have e10 : ρ (.tmp 10) = .pointer (some ⟨b, 0, none⟩) := e10
      obtain ⟨p0, n0, k0, p1, n1, k1, v2, ev⟩ := h5s _ _ hK
      rw [ev] at e39
      simp only [Value.tuple.injEq, List.toArray_inj, Array.mk.injEq, List.cons.injEq] at e39
      have e39 : ρ (.tmp 39) = .agg #[.slice p0 n0 k0, .slice p1 n1 k1] := e39.1.symm
      have c0 := (heap_cell hbx 0).trans rfl
      have c1 := (heap_cell hbx 1).trans rfl
      have f0 := heap_free hbx 0
      have f1 := heap_free hbx 1
      have hR1 := heap_set hbx 0 (.slice p0 n0 k0)
      refine up_store2 rfl e10 e39 hbx ⟨(hC.setCell (p := ⟨b, 0, none⟩) hMb _).setCell (p := ⟨b, 1, none⟩) hMb _, (KT.set hbx _).trans (KT.set hR1 _), ⟨b, _, _, e10, hMb, e39, (heap_set hR1 1 _).trans rfl⟩, fun j hj hcj => ?_⟩
      rcases ask11_atmM j (hat.lt j hj) hcj with rfl | rfl
      · exact ⟨b, _, _, e10, hMb, (heap_set hR1 1 _).trans rfl⟩
      · rw [hat.new] at hj; cases hj
    · simp at ho; subst ho
      refine fo_rel (S := KT 63) (E := [10, 12]) (kt12_atmM (.slice a ms.length cap) (.agg #[.slice pw s.words.length cw, .slice ph s.holds.length ch]) (.int .i64 who) (.agg #[.int .i64 r.id, .int .i64 r.kind, .int .i64 r.addr, .int .i64 r.many, .bool r.wrap, .slice pd r.data.length cd, .slice pl r.lanes.length cl]) W0.heap.size K2 K5 w.heap.size (w.heap.size + 1) h2t9 h5t9) hcl rfl rfl (fun done ρ W hat => ?_)
      have hC := hat.cls
      have hK : K5 W (ρ (.tmp 32)) := fK_at (d := 32) (K := K5) (hat.fact 6 (by kernel_rfl))
      obtain ⟨bb, e40⟩ := hat.fact 8 (by kernel_rfl)
      obtain ⟨b, o0, o1, o2, e11, hMb, hbx⟩ := hat.fact 10 (by kernel_rfl)
      have e40 : ρ (.tmp 32) = .tuple #[bb, ρ (.tmp 40)] := e40
      have e11 : ρ (.tmp 11) = .pointer (some ⟨b, 0, none⟩) := e11
      obtain ⟨va, i0, i1, p2, n2, k2, ev⟩ := h5x _ _ hK
      rw [ev] at e40
      simp only [Value.tuple.injEq, List.toArray_inj, Array.mk.injEq, List.cons.injEq] at e40
      have e40 : ρ (.tmp 40) = .agg #[.int .i64 i0, .int .i64 i1, .slice p2 n2 k2] := e40.2.1.symm
      have c0 := (heap_cell hbx 0).trans rfl
      have c1 := (heap_cell hbx 1).trans rfl
      have c2 := (heap_cell hbx 2).trans rfl
      have f0 := heap_free hbx 0
      have f1 := heap_free hbx 1
      have f2 := heap_free hbx 2
      have hR1 := heap_set hbx 0 (.int .i64 i0)
      have hR2 := heap_set hR1 1 (.int .i64 i1)
      refine up_store3 rfl e11 e40 hbx ⟨((hC.setCell (p := ⟨b, 0, none⟩) hMb _).setCell (p := ⟨b, 1, none⟩) hMb _).setCell (p := ⟨b, 2, none⟩) hMb _, ((KT.set hbx _).trans (KT.set hR1 _)).trans (KT.set hR2 _), ⟨b, _, _, _, e11, hMb, e40, (heap_set hR2 2 _).trans rfl⟩, fun j hj hcj => ?_⟩
      rcases ask12_atmM j (hat.lt j hj) hcj with rfl | rfl
      · exact ⟨b, _, _, _, e11, hMb, (heap_set hR2 2 _).trans rfl⟩
      · rw [hat.new] at hj; cases hj
    · simp at ho
  case c0 => exact (Below.refl _ _).drew
  case done =>
    intro f W1 hC hf hout
    have hK : K5 W1 (f 32) := fK_at (d := 32) (K := K5) (hf 6 (by decide))
    rw [HK5.out] at hK
    obtain ⟨g, c, g', c', px, cx, e32, o1, l1, m1, o2, l2, m2, a1, a2, a3, o3, x1, x2⟩ := hK
    obtain ⟨vb, e39⟩ : ∃ b, f 32 = .tuple #[f 39, b] := hf 7 (by decide)
    obtain ⟨va, e40⟩ : ∃ b, f 32 = .tuple #[b, f 40] := hf 8 (by decide)
    obtain ⟨B10, u0, u1, e10, hM10, e39', H10⟩ : ∃ b v0 v1, f 10 = .pointer (some ⟨b, 0, none⟩) ∧ W0.heap.size ≤ b ∧ f 39 = .agg #[v0, v1] ∧ W1.heap[b]? = some (.cells #[v0, v1] 34 (0, 0)) := hf 11 (by decide)
    obtain ⟨B11, t0, t1, t2, e11, hM11, e40', H11⟩ : ∃ b v0 v1 v2, f 11 = .pointer (some ⟨b, 0, none⟩) ∧ W0.heap.size ≤ b ∧ f 40 = .agg #[v0, v1, v2] ∧ W1.heap[b]? = some (.cells #[v0, v1, v2] 63 (0, 0)) := hf 12 (by decide)
    rw [e32] at e39 e40
    simp only [Value.tuple.injEq, List.toArray_inj, Array.mk.injEq, List.cons.injEq] at e39 e40
    rw [← e39.1] at e39'
    rw [← e40.2.1] at e40'
    cases e39'
    cases e40'
    have hs1 := hC.size
    have hl10 := heap_lt H10
    have hl11 := heap_lt H11
    have H10 := Hid.intro H10
    have H11 := Hid.intro H11
    have hn10 : ¬ (B10 = w.heap.size + 1 + 1 ∨ B10 = w.heap.size + 1 + 1 + 1) := by omega
    have hn11 : ¬ (B11 = w.heap.size + 1 + 1 ∨ B11 = w.heap.size + 1 + 1 + 1) := by omega
    have h81 := (hC.block _ hl8).trans H8.out
    have h91 := (hC.block _ hl9).trans H9.out
    have hM8 : w.heap.size + 1 + 1 < W1.heap.size := heap_lt h81
    have hM9 : w.heap.size + 1 + 1 + 1 < W1.heap.size := heap_lt h91
    have hlen : z.2.data.length ≤ 100000 := by omega
    have hDA : ∀ W, Kept (fun k => k = w.heap.size + 1 + 1 ∨ k = w.heap.size + 1 + 1 + 1) W1 W → IntsAt W px z.2.data := fun W hk => by
      rcases o3 with h | ⟨g3, h1, h2, h3⟩
      · exact .inl h
      · rw [h1]; exact (h3.of (hk.block g3 h3.lt (by omega))).ints
    have hKg : ∀ w w' v, Gr w w' → (k9_atmN B10 B11 (w.heap.size + 1 + 1) (w.heap.size + 1 + 1 + 1) W1.heap.size (.slice (some ⟨g, 0, none⟩) s.words.length c) (.slice (some ⟨g', 0, none⟩) s.holds.length c') z.2.id z.2.code px cx z.2.data) w v → (k9_atmN B10 B11 (w.heap.size + 1 + 1) (w.heap.size + 1 + 1 + 1) W1.heap.size (.slice (some ⟨g, 0, none⟩) s.words.length c) (.slice (some ⟨g', 0, none⟩) s.holds.length c') z.2.id z.2.code px cx z.2.data) w' v := by
      rintro w w' v hg ⟨g, c, h1, h2, h3, h4⟩; exact ⟨g, c, h1, h2, h3.gr hg, h4⟩
    have hKk : ∀ wa wb v, Kept (fun k => k = w.heap.size + 1 + 1 ∨ k = w.heap.size + 1 + 1 + 1) wa wb → (k9_atmN B10 B11 (w.heap.size + 1 + 1) (w.heap.size + 1 + 1 + 1) W1.heap.size (.slice (some ⟨g, 0, none⟩) s.words.length c) (.slice (some ⟨g', 0, none⟩) s.holds.length c') z.2.id z.2.code px cx z.2.data) wa v → (k9_atmN B10 B11 (w.heap.size + 1 + 1) (w.heap.size + 1 + 1 + 1) W1.heap.size (.slice (some ⟨g, 0, none⟩) s.words.length c) (.slice (some ⟨g', 0, none⟩) s.holds.length c') z.2.id z.2.code px cx z.2.data) wb v := by
      rintro wa wb v hk ⟨g, c, h1, h2, h3, h4⟩; exact ⟨g, c, h1, h2, h3.of (hk.block g h3.lt (by omega)), h4⟩
    have HO1 := Hid.intro o1
    have HO2 := Hid.intro o2
    have HB1 := Hid.intro (hb3'.trans (hC.mono hsw))
    have H81 := Hid.intro h81
    have H91 := Hid.intro h91
    have HLW := Hid.intro (And.intro hlw (And.intro hlh (And.intro hh6 hw64)))
    have hgl := o1.lt
    have hgl' := o2.lt
    clear hf hout hC o1 o2 o3 e39 e40 e32 h2g h5g h2t8 h2t9 h5t8 h5t9 h5t h5s h5x HCP HDO h81 h91 hlw hlh hh6 hw64 hb3'
    simp only [fill, e10, e11]
    go_simp
    go_wp2_with fail
    refine wp_region_fl (by kernel_rfl) (fl_atmN B10 B11 (w.heap.size + 1 + 1) (w.heap.size + 1 + 1 + 1) W1.heap.size (.slice (some ⟨g, 0, none⟩) s.words.length c) (.slice (some ⟨g', 0, none⟩) s.holds.length c') z.2.id z.2.code px cx z.2.data) (CN (w.heap.size + 1 + 1) (w.heap.size + 1 + 1 + 1) #[.slice (some ⟨g, 0, none⟩) s.words.length c, .slice (some ⟨g', 0, none⟩) s.holds.length c'] (k9_atmN B10 B11 (w.heap.size + 1 + 1) (w.heap.size + 1 + 1 + 1) W1.heap.size (.slice (some ⟨g, 0, none⟩) s.words.length c) (.slice (some ⟨g', 0, none⟩) s.holds.length c') z.2.id z.2.code px cx z.2.data) W1) [41, 42, 43, 44, 45, 46, 47, 48, 49, 50] (by kernel_rfl) (by kernel_rfl) (by kernel_rfl) ?c0 ?looks ?done
    case looks =>
      intro hcl i o ho
      rcases i with _ | _ | _ | _ | _ | _ | _ | _ | _ | _ | _ | _ | i
      · simp at ho; subst ho
        refine fo_det (st_atmN B10 B11 (w.heap.size + 1 + 1) (w.heap.size + 1 + 1 + 1) W1.heap.size (.slice (some ⟨g, 0, none⟩) s.words.length c) (.slice (some ⟨g', 0, none⟩) s.holds.length c') z.2.id z.2.code px cx z.2.data) hcl rfl rfl rfl rfl (by kernel_rfl) (fun _ _ h => CN.step (by decide) (by decide) h) (fun done ρ W hat => ?_)
        have e10 : ρ (.tmp 10) = .pointer (some ⟨B10, 0, none⟩) := hat.out 10 (by kernel_rfl)
        have hC := hat.cls
        have hbx := (hC.kept.block _ hl10 hn10).trans H10.out
        have c0 := (heap_cell hbx 0).trans rfl
        have c1 := (heap_cell hbx 1).trans rfl
        have hc := hat.con
        simp only [execOp, e10]
        go_simp
      · simp at ho; subst ho
        refine fo_det (st_atmN B10 B11 (w.heap.size + 1 + 1) (w.heap.size + 1 + 1 + 1) W1.heap.size (.slice (some ⟨g, 0, none⟩) s.words.length c) (.slice (some ⟨g', 0, none⟩) s.holds.length c') z.2.id z.2.code px cx z.2.data) hcl rfl rfl rfl rfl (by kernel_rfl) (fun _ _ h => CN.step (by decide) (by decide) h) (fun done ρ W hat => ?_)
        have e11 : ρ (.tmp 11) = .pointer (some ⟨B11, 0, none⟩) := hat.out 11 (by kernel_rfl)
        have hC := hat.cls
        have hc := hat.con
        simp only [execOp, e11]
        go_simp
      · simp at ho; subst ho
        refine fo_det (st_atmN B10 B11 (w.heap.size + 1 + 1) (w.heap.size + 1 + 1 + 1) W1.heap.size (.slice (some ⟨g, 0, none⟩) s.words.length c) (.slice (some ⟨g', 0, none⟩) s.holds.length c') z.2.id z.2.code px cx z.2.data) hcl rfl rfl rfl rfl (by kernel_rfl) (fun _ _ h => CN.step (by decide) (by decide) h) (fun done ρ W hat => ?_)
        have e42 : ρ (.tmp 42) = .pointer (some ⟨B11, 0, none⟩) := fIs_at (d := 42) (v := .pointer (some ⟨B11, 0, none⟩)) (hat.fact 1 (by kernel_rfl))
        have hC := hat.cls
        have hbx := (hC.kept.block _ hl11 hn11).trans H11.out
        have c0 := (heap_cell hbx 0).trans rfl
        have hc := hat.con
        simp only [execOp, e42]
        go_simp
      · simp at ho; subst ho
        refine fo_det (st_atmN B10 B11 (w.heap.size + 1 + 1) (w.heap.size + 1 + 1 + 1) W1.heap.size (.slice (some ⟨g, 0, none⟩) s.words.length c) (.slice (some ⟨g', 0, none⟩) s.holds.length c') z.2.id z.2.code px cx z.2.data) hcl rfl rfl rfl rfl (by kernel_rfl) (fun _ _ h => CN.step (by decide) (by decide) h) (fun done ρ W hat => ?_)
        have e11 : ρ (.tmp 11) = .pointer (some ⟨B11, 0, none⟩) := hat.out 11 (by kernel_rfl)
        have hC := hat.cls
        have hc := hat.con
        simp only [execOp, e11]
        go_simp
      · simp at ho; subst ho
        refine fo_det (st_atmN B10 B11 (w.heap.size + 1 + 1) (w.heap.size + 1 + 1 + 1) W1.heap.size (.slice (some ⟨g, 0, none⟩) s.words.length c) (.slice (some ⟨g', 0, none⟩) s.holds.length c') z.2.id z.2.code px cx z.2.data) hcl rfl rfl rfl rfl (by kernel_rfl) (fun _ _ h => CN.step (by decide) (by decide) h) (fun done ρ W hat => ?_)
        have e44 : ρ (.tmp 44) = .pointer (some ⟨B11, 1, none⟩) := fIs_at (d := 44) (v := .pointer (some ⟨B11, 1, none⟩)) (hat.fact 3 (by kernel_rfl))
        have hC := hat.cls
        have hbx := (hC.kept.block _ hl11 hn11).trans H11.out
        have c1 := (heap_cell hbx 1).trans rfl
        have hc := hat.con
        simp only [execOp, e44]
        go_simp
      · simp at ho; subst ho
        refine fo_grow (st_atmN B10 B11 (w.heap.size + 1 + 1) (w.heap.size + 1 + 1 + 1) W1.heap.size (.slice (some ⟨g, 0, none⟩) s.words.length c) (.slice (some ⟨g', 0, none⟩) s.holds.length c') z.2.id z.2.code px cx z.2.data) hcl rfl rfl (fun done ρ W hat => ?_)
        have hC := hat.cls
        refine up_val (.slice (some ⟨W.heap.size, 0, none⟩) 0 0) (W.alloc (.cells #[] 3)) (by simp only [execOp]; go_simp) ?_
        refine ⟨CN.grow hKg (by decide) (by decide) hC (below_nw _ _), below_nw _ _, fK_mk (K := k5_atmN B10 B11 (w.heap.size + 1 + 1) (w.heap.size + 1 + 1 + 1) W1.heap.size (.slice (some ⟨g, 0, none⟩) s.words.length c) (.slice (some ⟨g', 0, none⟩) s.holds.length c') z.2.id z.2.code px cx z.2.data) ⟨W.heap.size, updV_same _ _ _, hC.kept.size, nw_at _ rfl⟩, free_spec (by kernel_rfl) hat.lt⟩
      · simp at ho; subst ho
        refine fo_det (st_atmN B10 B11 (w.heap.size + 1 + 1) (w.heap.size + 1 + 1 + 1) W1.heap.size (.slice (some ⟨g, 0, none⟩) s.words.length c) (.slice (some ⟨g', 0, none⟩) s.holds.length c') z.2.id z.2.code px cx z.2.data) hcl rfl rfl rfl rfl (by kernel_rfl) (fun _ _ h => CN.step (by decide) (by decide) h) (fun done ρ W hat => ?_)
        have e11 : ρ (.tmp 11) = .pointer (some ⟨B11, 0, none⟩) := hat.out 11 (by kernel_rfl)
        have hC := hat.cls
        have hc := hat.con
        simp only [execOp, e11]
        go_simp
      · simp at ho; subst ho
        refine fo_det (st_atmN B10 B11 (w.heap.size + 1 + 1) (w.heap.size + 1 + 1 + 1) W1.heap.size (.slice (some ⟨g, 0, none⟩) s.words.length c) (.slice (some ⟨g', 0, none⟩) s.holds.length c') z.2.id z.2.code px cx z.2.data) hcl rfl rfl rfl rfl (by kernel_rfl) (fun _ _ h => CN.step (by decide) (by decide) h) (fun done ρ W hat => ?_)
        have e47 : ρ (.tmp 47) = .pointer (some ⟨B11, 2, none⟩) := fIs_at (d := 47) (v := .pointer (some ⟨B11, 2, none⟩)) (hat.fact 6 (by kernel_rfl))
        have hC := hat.cls
        have hbx := (hC.kept.block _ hl11 hn11).trans H11.out
        have c2 := (heap_cell hbx 2).trans rfl
        have hc := hat.con
        simp only [execOp, e47]
        go_simp
      · simp at ho; subst ho
        refine fo_grow (st_atmN B10 B11 (w.heap.size + 1 + 1) (w.heap.size + 1 + 1 + 1) W1.heap.size (.slice (some ⟨g, 0, none⟩) s.words.length c) (.slice (some ⟨g', 0, none⟩) s.holds.length c') z.2.id z.2.code px cx z.2.data) hcl rfl rfl (fun done ρ W hat => ?_)
        have e48 : ρ (.tmp 48) = .slice px z.2.data.length cx := fIs_at (d := 48) (v := .slice px z.2.data.length cx) (hat.fact 7 (by kernel_rfl))
        have hC := hat.cls
        obtain ⟨gE, k1, k2, k3⟩ := (fK_at (d := 46) (K := k5_atmN B10 B11 (w.heap.size + 1 + 1) (w.heap.size + 1 + 1 + 1) W1.heap.size (.slice (some ⟨g, 0, none⟩) s.words.length c) (.slice (some ⟨g', 0, none⟩) s.holds.length c') z.2.id z.2.code px cx z.2.data) (hat.fact 5 (by kernel_rfl)))
        refine ty_app_new rfl k1 k3 e48 (hDA W hC.kept) hlen ?_
        intro g2 c2 W2 hO hc1 hc2 hge hgo hb
        refine ⟨CN.grow hKg (by decide) (by decide) hC hb, hb, fK_mk (K := k8_atmN B10 B11 (w.heap.size + 1 + 1) (w.heap.size + 1 + 1 + 1) W1.heap.size (.slice (some ⟨g, 0, none⟩) s.words.length c) (.slice (some ⟨g', 0, none⟩) s.holds.length c') z.2.id z.2.code px cx z.2.data) ⟨g2, c2, updV_same _ _ _, ?_, hO, hc1, hc2⟩, free_spec (by kernel_rfl) hat.lt⟩
        rcases hgo with rfl | h
        · exact k2
        · exact Nat.le_trans hC.kept.size h
      · simp at ho; subst ho
        refine fo_grow (st_atmN B10 B11 (w.heap.size + 1 + 1) (w.heap.size + 1 + 1 + 1) W1.heap.size (.slice (some ⟨g, 0, none⟩) s.words.length c) (.slice (some ⟨g', 0, none⟩) s.holds.length c') z.2.id z.2.code px cx z.2.data) hcl rfl rfl (fun done ρ W hat => ?_)
        have e43 : ρ (.tmp 43) = .int .i64 z.2.id := fIs_at (d := 43) (v := .int .i64 z.2.id) (hat.fact 2 (by kernel_rfl))
        have e45 : ρ (.tmp 45) = .int .i64 z.2.code := fIs_at (d := 45) (v := .int .i64 z.2.code) (hat.fact 4 (by kernel_rfl))
        have hC := hat.cls
        obtain ⟨g2, c2, k1, k2, k3, k4, k5⟩ := (fK_at (d := 49) (K := k8_atmN B10 B11 (w.heap.size + 1 + 1) (w.heap.size + 1 + 1 + 1) W1.heap.size (.slice (some ⟨g, 0, none⟩) s.words.length c) (.slice (some ⟨g', 0, none⟩) s.holds.length c') z.2.id z.2.code px cx z.2.data) (hat.fact 8 (by kernel_rfl)))
        refine up_val (.agg #[.int .i64 z.2.id, .int .i64 z.2.code, .slice (some ⟨g2, 0, none⟩) z.2.data.length c2]) W (by simp only [execOp]; go_simp) ?_
        exact ⟨CN.step (by decide) (by decide) hC, Gr.refl _, fK_mk (K := k9_atmN B10 B11 (w.heap.size + 1 + 1) (w.heap.size + 1 + 1 + 1) W1.heap.size (.slice (some ⟨g, 0, none⟩) s.words.length c) (.slice (some ⟨g', 0, none⟩) s.holds.length c') z.2.id z.2.code px cx z.2.data) ⟨g2, c2, updV_same _ _ _, k2, k3, k4, k5⟩, free_spec (by kernel_rfl) hat.lt⟩
      · simp at ho; subst ho
        refine fo_rel (S := Kept (fun k => k = w.heap.size + 1 + 1 ∨ k = w.heap.size + 1 + 1 + 1)) (E := []) (kept_atmN B10 B11 (w.heap.size + 1 + 1) (w.heap.size + 1 + 1 + 1) W1.heap.size (.slice (some ⟨g, 0, none⟩) s.words.length c) (.slice (some ⟨g', 0, none⟩) s.holds.length c') z.2.id z.2.code px cx z.2.data hM8 hM9) hcl rfl rfl (fun done ρ W hat => ?_)
        have e8 : ρ (.tmp 8) = .pointer (some ⟨(w.heap.size + 1 + 1), 0, none⟩) := hat.out 8 (by kernel_rfl)
        have e41 : ρ (.tmp 41) = .agg #[(.slice (some ⟨g, 0, none⟩) s.words.length c), (.slice (some ⟨g', 0, none⟩) s.holds.length c')] := fIs_at (d := 41) (v := .agg #[(.slice (some ⟨g, 0, none⟩) s.words.length c), (.slice (some ⟨g', 0, none⟩) s.holds.length c')]) (hat.fact 0 (by kernel_rfl))
        have hC := hat.cls
        have hbx := hC.o8 hat.new
        have c0 := (heap_cell hbx 0).trans rfl
        have c1 := (heap_cell hbx 1).trans rfl
        have f0 := heap_free hbx 0
        have f1 := heap_free hbx 1
        refine up_skip ((W.setCell ⟨w.heap.size + 1 + 1, 0, none⟩ (.slice (some ⟨g, 0, none⟩) s.words.length c)).setCell ⟨w.heap.size + 1 + 1, 1, none⟩ (.slice (some ⟨g', 0, none⟩) s.holds.length c')) (by simp only [execOp]; go_simp) ⟨hC.st hKk hat.new, (Kept.setCell (D := fun k => k = w.heap.size + 1 + 1 ∨ k = w.heap.size + 1 + 1 + 1) (p := ⟨w.heap.size + 1 + 1, 0, none⟩) _ (.inl rfl) _).trans (Kept.setCell (D := fun k => k = w.heap.size + 1 + 1 ∨ k = w.heap.size + 1 + 1 + 1) (p := ⟨w.heap.size + 1 + 1, 1, none⟩) _ (.inl rfl) _), trivial, fun j hj hcj => ?_⟩
        exact free_spec (X := fun _ => _) (by kernel_rfl) hat.lt j hj (by simpa using hcj)
      · simp at ho; subst ho
        refine fo_rel (S := Kept (fun k => k = w.heap.size + 1 + 1 ∨ k = w.heap.size + 1 + 1 + 1)) (E := []) (kept_atmN B10 B11 (w.heap.size + 1 + 1) (w.heap.size + 1 + 1 + 1) W1.heap.size (.slice (some ⟨g, 0, none⟩) s.words.length c) (.slice (some ⟨g', 0, none⟩) s.holds.length c') z.2.id z.2.code px cx z.2.data hM8 hM9) hcl rfl rfl (fun done ρ W hat => ?_)
        have e9 : ρ (.tmp 9) = .pointer (some ⟨(w.heap.size + 1 + 1 + 1), 0, none⟩) := hat.out 9 (by kernel_rfl)
        have hC := hat.cls
        obtain ⟨u0, u1, u2, hbx, _⟩ := hC.b9
        have c0 := (heap_cell hbx 0).trans rfl
        have c1 := (heap_cell hbx 1).trans rfl
        have c2 := (heap_cell hbx 2).trans rfl
        have f0 := heap_free hbx 0
        have f1 := heap_free hbx 1
        have f2 := heap_free hbx 2
        have hKv := (fK_at (d := 50) (K := k9_atmN B10 B11 (w.heap.size + 1 + 1) (w.heap.size + 1 + 1 + 1) W1.heap.size (.slice (some ⟨g, 0, none⟩) s.words.length c) (.slice (some ⟨g', 0, none⟩) s.holds.length c') z.2.id z.2.code px cx z.2.data) (hat.fact 9 (by kernel_rfl)))
        obtain ⟨g2, c2x, e50, k2, k3, k4, k5⟩ := hKv
        refine up_skip (((W.setCell ⟨w.heap.size + 1 + 1 + 1, 0, none⟩ (.int .i64 z.2.id)).setCell ⟨w.heap.size + 1 + 1 + 1, 1, none⟩ (.int .i64 z.2.code)).setCell ⟨w.heap.size + 1 + 1 + 1, 2, none⟩ (.slice (some ⟨g2, 0, none⟩) z.2.data.length c2x)) (by simp only [execOp, e50]; go_simp) ⟨hC.rs hKk ⟨g2, c2x, rfl, k2, k3, k4, k5⟩, kept3k (fun k => k = w.heap.size + 1 + 1 ∨ k = w.heap.size + 1 + 1 + 1) W (.inr rfl) _ _ _, trivial, fun j hj hcj => ?_⟩
        exact free_spec (X := fun _ => _) (by kernel_rfl) hat.lt j hj (by simpa using hcj)
      · simp at ho
    case c0 => exact ⟨Kept.drew _ _, H81.out, ⟨_, _, _, H91.out, fun h => by cases h⟩, by omega⟩
    case done =>
      intro f W hC hf hout
      obtain ⟨v0, v1, v2, h9, hv⟩ := hC.b9
      obtain ⟨g2, c2, e, k2, k3, k4, k5⟩ := hv rfl
      cases e
      have h8 : W.heap[w.heap.size + 1 + 1]? = some (.cells #[.slice (some ⟨g, 0, none⟩) s.words.length c, .slice (some ⟨g', 0, none⟩) s.holds.length c'] 34 (0, 0)) := hC.b8
      have s0 : W.cell? ⟨w.heap.size + 1 + 1, 0, none⟩ = some (.slice (some ⟨g, 0, none⟩) s.words.length c) := heap_cell h8 0
      have s1 : W.cell? ⟨w.heap.size + 1 + 1, 1, none⟩ = some (.slice (some ⟨g', 0, none⟩) s.holds.length c') := heap_cell h8 1
      have y0 : W.cell? ⟨w.heap.size + 1 + 1 + 1, 0, none⟩ = some (.int .i64 z.2.id) := heap_cell h9 0
      have y1 : W.cell? ⟨w.heap.size + 1 + 1 + 1, 1, none⟩ = some (.int .i64 z.2.code) := heap_cell h9 1
      have y2 : W.cell? ⟨w.heap.size + 1 + 1 + 1, 2, none⟩ = some (.slice (some ⟨g2, 0, none⟩) z.2.data.length c2) := heap_cell h9 2
      have hk := hC.kept
      obtain ⟨hlw, hlh, hh6, hw64⟩ := HLW.out
      have HOUT : Hid (AtmOut w.heap.size W z.1 z.2 (some ⟨g, 0, none⟩) c (some ⟨g', 0, none⟩) c' (some ⟨g2, 0, none⟩) c2) := by
        have b1 := HB1.out.size
        refine Hid.intro ⟨.inr ⟨g, rfl, by omega, by rw [hlw]; exact HO1.out.of (hk.block g hgl (by omega))⟩, .inr ⟨g', rfl, by omega, by rw [hlh]; exact HO2.out.of (hk.block g' hgl' (by omega))⟩, .inr ⟨g2, rfl, by omega, k3⟩, by omega, by omega, by omega, by omega, k4, k5, .inr (.inr (fun e => a3 (by cases e; rfl))), .inr (.inr (fun e => by cases e; omega)), .inr (.inr (fun e => by cases e; omega))⟩
      have HBB : Hid (Below w.heap.size w W) := by
        have b1 := HB1.out.size
        exact Hid.intro (HB1.out.trans ⟨hk.os, hk.tape, hk.output, hk.size, fun k hk' => hk.block k (by omega) (by omega)⟩)
      clear hf hout hC hk h8 h9 hv k3
      simp only [fill]
      go_simp
      go_wp2
      refine bodyPost_ret (v := .tuple #[.agg #[.slice (some ⟨g, 0, none⟩) s.words.length c, .slice (some ⟨g', 0, none⟩) s.holds.length c'], .agg #[.int .i64 z.2.id, .int .i64 z.2.code, .slice (some ⟨g2, 0, none⟩) z.2.data.length c2]]) (by simp [results, Tryz.results30, go_sem, s0, s1, y0, y1, y2]) rfl ?_
      refine ⟨some ⟨g, 0, none⟩, c, some ⟨g', 0, none⟩, c', some ⟨g2, 0, none⟩, c2, ?_, HOUT.out, HBB.out⟩
      rw [hlw, hlh]; rfl

end Go.Proofs.YtpamjkkghghggaaGreat
