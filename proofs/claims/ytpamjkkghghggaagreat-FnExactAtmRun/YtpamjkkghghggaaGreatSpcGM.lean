/-
  AtmDo of the model: what is done, in a copy.
-/
import Derived.Test.YtpamjkkghghggaaGreatPairWM
import Derived.BigQuiet
/-
  l4Do of the model: what one asks, done at once, in a copy.
-/
namespace Go.Proofs.YtpamjkkghghggaaGreat
open Go.RowKit
set_option linter.unusedSimpArgs false
set_option linter.unusedVariables false

/-- how memory stands while l4Do is at it -/
structure L4 (w0 w : World) (g cw g' ch lw lh : Nat) (q : Array Value) (wx hx : List Int) (W : World) : Prop where
  bel : Below w0.heap.size w0 W
  b5 : W.heap[w.heap.size]? = some (.cells #[.slice (some ⟨g, 0, none⟩) lw cw, .slice (some ⟨g', 0, none⟩) lh ch] 34 (0, 0))
  b7 : W.heap[w.heap.size + 1]? = some (.cells q 66 (0, 0))
  b8 : W.heap[w.heap.size + 1 + 1]? = some (.cells #[.slice none 0 0, .slice none 0 0] 34 (0, 0))
  b9 : W.heap[w.heap.size + 1 + 1 + 1]? = some (.cells #[.int .i64 0, .int .i64 0, .slice none 0 0] 63 (0, 0))
  row : ORow 3 1 W g cw lw (wx.map (Value.int .i64))
  row' : ORow 3 1 W g' ch lh (hx.map (Value.int .i64))
  kept : Kept (fun k => k = g ∨ k = g') w W
theorem L4.size {w0 w : World} {g cw g' ch lw lh : Nat} {q : Array Value} {wx hx : List Int} {W : World} (h : L4 w0 w g cw g' ch lw lh q wx hx W) : w.heap.size + 4 ≤ W.heap.size := by have := heap_lt h.b9; omega
theorem L4.gr {w0 w : World} {g cw g' ch lw lh : Nat} {q : Array Value} {wx hx : List Int} {W W' : World} (h : L4 w0 w g cw g' ch lw lh q wx hx W) (hg : Gr W W') : L4 w0 w g cw g' ch lw lh q wx hx W' :=
  ⟨h.bel.trans (hg.mono h.bel.size), hg.cells h.b5, hg.cells h.b7, hg.cells h.b8, hg.cells h.b9, h.row.gr hg, h.row'.gr hg, h.kept.trans (Kept.of_below hg)⟩

theorem L4.setX {w0 w : World} {g cw g' ch lw lh : Nat} {q : Array Value} {wx hx : List Int} {W : World} (h : L4 w0 w g cw g' ch lw lh q wx hx W) {X : Nat} (hX : w.heap.size + 4 ≤ X) (hg : g < w.heap.size) (hg' : g' < w.heap.size) (hw : w0.heap.size ≤ w.heap.size) (i : Nat) (v : Value) : L4 w0 w g cw g' ch lw lh q wx hx (W.setCell ⟨X, i, none⟩ v) :=
  ⟨h.bel.setCell (p := ⟨X, i, none⟩) (by show w0.heap.size ≤ X; omega) v, (heap_set_ne (by omega)).trans h.b5, (heap_set_ne (by omega)).trans h.b7, (heap_set_ne (by omega)).trans h.b8, (heap_set_ne (by omega)).trans h.b9, h.row.of (heap_set_ne (by omega)), h.row'.of (heap_set_ne (by omega)),
    ⟨h.kept.os, h.kept.tape, h.kept.output, by have := h.kept.size; simp; omega, fun k hk hne => (heap_set_ne (by omega)).trans (h.kept.block k hk hne)⟩⟩
theorem L4.box0 {w0 w : World} {g cw g' ch lw lh : Nat} {q : Array Value} {wx hx : List Int} {W : World} (h : L4 w0 w g cw g' ch lw lh q wx hx W) (hg : g < w.heap.size) (hg' : g' < w.heap.size) (hw : w0.heap.size ≤ w.heap.size) : L4 w0 w g cw g' ch lw lh q wx hx (W.setCell ⟨w.heap.size, 0, none⟩ (.slice (some ⟨g, 0, none⟩) lw cw)) :=
  ⟨h.bel.setCell (p := ⟨w.heap.size, 0, none⟩) hw _, (heap_set h.b5 0 _).trans rfl, (heap_set_ne (by omega)).trans h.b7, (heap_set_ne (by omega)).trans h.b8, (heap_set_ne (by omega)).trans h.b9, h.row.of (heap_set_ne (by omega)), h.row'.of (heap_set_ne (by omega)),
    ⟨h.kept.os, h.kept.tape, h.kept.output, by have := h.kept.size; simp; omega, fun k hk hne => (heap_set_ne (by omega)).trans (h.kept.block k hk hne)⟩⟩
theorem L4.box1 {w0 w : World} {g cw g' ch lw lh : Nat} {q : Array Value} {wx hx : List Int} {W : World} (h : L4 w0 w g cw g' ch lw lh q wx hx W) (hg : g < w.heap.size) (hg' : g' < w.heap.size) (hw : w0.heap.size ≤ w.heap.size) : L4 w0 w g cw g' ch lw lh q wx hx (W.setCell ⟨w.heap.size, 1, none⟩ (.slice (some ⟨g', 0, none⟩) lh ch)) :=
  ⟨h.bel.setCell (p := ⟨w.heap.size, 1, none⟩) hw _, (heap_set h.b5 1 _).trans rfl, (heap_set_ne (by omega)).trans h.b7, (heap_set_ne (by omega)).trans h.b8, (heap_set_ne (by omega)).trans h.b9, h.row.of (heap_set_ne (by omega)), h.row'.of (heap_set_ne (by omega)),
    ⟨h.kept.os, h.kept.tape, h.kept.output, by have := h.kept.size; simp; omega, fun k hk hne => (heap_set_ne (by omega)).trans (h.kept.block k hk hne)⟩⟩
theorem L4.turn {G : Nat} {w0 w : World} {g cw g' ch lw lh : Nat} {q : Array Value} {wx hx : List Int} {W : World} {W' : World} (h : L4 w0 w g cw g' ch lw lh q wx hx W) (hG : G = g ∨ G = g') (hg : g < w.heap.size) (hg' : g' < w.heap.size) (hw : w0.heap.size ≤ w.heap.size) (hMg : w0.heap.size ≤ g) (hMg' : w0.heap.size ≤ g') {wx' hx' : List Int} (hk : Kept (fun k => k = G) W W') (hr : ORow 3 1 W' g cw lw (wx'.map (Value.int .i64))) (hr' : ORow 3 1 W' g' ch lh (hx'.map (Value.int .i64))) : L4 w0 w g cw g' ch lw lh q wx' hx' W' := by
  have hs := h.size
  exact ⟨h.bel.trans ⟨hk.os, hk.tape, hk.output, hk.size, fun k hk1 => hk.block k (by omega) (by omega)⟩, (hk.block _ (by omega) (by omega)).trans h.b5, (hk.block _ (by omega) (by omega)).trans h.b7, (hk.block _ (by omega) (by omega)).trans h.b8, (hk.block _ (by omega) (by omega)).trans h.b9, hr, hr', h.kept.trans (hk.mono (fun k e => by omega))⟩

theorem offB {w0 : World} {p : Option Addr} {l : List Int} {g : Nat} (h : IntsAt w0 p l) (hg : w0.heap.size ≤ g) : Off g p l := by
  rcases h with h | ⟨b, off, rfl, hb, _⟩
  · exact .inl h
  · exact .inr (fun b' off' e => by cases e; omega)
theorem intsK {W W' : World} {gq : Nat} {l : List Int} {G : Nat} (h : IntsAt W (some ⟨gq, 0, none⟩) l) (hk : Kept (fun k => k = G) W W') (hne : gq ≠ G) : IntsAt W' (some ⟨gq, 0, none⟩) l := by
  rcases h with h | ⟨b, off, e, hb, hc⟩
  · exact .inl h
  · cases e
    exact .inr ⟨gq, 0, rfl, Nat.lt_of_lt_of_le hb hk.size, fun k hkl => (hk.cell (p := ⟨gq, 0 + k, none⟩) hb hne).trans (hc k hkl)⟩
theorem uB_ne (d : Nat → Bool) {i j : Nat} (h : j ≠ i) : updB d i j = d j := by simp [updB, h]
theorem uB_self (d : Nat → Bool) (i : Nat) : updB d i i = true := by simp [updB]
/-- a region that stores a state (operation 2) and what came of it (operation 3), both known -/
structure CF (R8 R9 : Nat) (sv xv : Array Value) (W0 : World) (d : Nat → Bool) (W : World) : Prop where
  kept : Kept (fun k => k = R8 ∨ k = R9) W0 W
  b8 : W.heap[R8]? = some (.cells (if d 2 then sv else #[.slice none 0 0, .slice none 0 0]) 34 (0, 0))
  b9 : W.heap[R9]? = some (.cells (if d 3 then xv else #[.int .i64 0, .int .i64 0, .slice none 0 0]) 63 (0, 0))
  ne : R8 ≠ R9
theorem CF.step {R8 R9 : Nat} {sv xv : Array Value} {W0 W : World} {d : Nat → Bool} {i : Nat} (h2 : 2 ≠ i) (h3 : 3 ≠ i) (h : CF R8 R9 sv xv W0 d W) : CF R8 R9 sv xv W0 (updB d i) W :=
  ⟨h.kept, by rw [uB_ne d h2]; exact h.b8, by rw [uB_ne d h3]; exact h.b9, h.ne⟩
theorem CF.o8 {R8 R9 : Nat} {sv xv : Array Value} {W0 W : World} {d : Nat → Bool} (h : CF R8 R9 sv xv W0 d W) (hd : d 2 = false) : W.heap[R8]? = some (.cells #[.slice none 0 0, .slice none 0 0] 34 (0, 0)) := by
  have := h.b8; rw [hd] at this; exact this
theorem CF.o9 {R8 R9 : Nat} {sv xv : Array Value} {W0 W : World} {d : Nat → Bool} (h : CF R8 R9 sv xv W0 d W) (hd : d 3 = false) : W.heap[R9]? = some (.cells #[.int .i64 0, .int .i64 0, .slice none 0 0] 63 (0, 0)) := by
  have := h.b9; rw [hd] at this; exact this
theorem CF.st {R8 R9 : Nat} {v0 v1 : Value} {xv : Array Value} {W0 W : World} {d : Nat → Bool} (h : CF R8 R9 #[v0, v1] xv W0 d W) (hd : d 2 = false) : CF R8 R9 #[v0, v1] xv W0 (updB d 2) ((W.setCell ⟨R8, 0, none⟩ v0).setCell ⟨R8, 1, none⟩ v1) := by
  have hne := h.ne
  refine ⟨h.kept.trans ((Kept.setCell (D := fun k => k = R8 ∨ k = R9) (p := ⟨R8, 0, none⟩) _ (.inl rfl) _).trans (Kept.setCell (D := fun k => k = R8 ∨ k = R9) (p := ⟨R8, 1, none⟩) _ (.inl rfl) _)), ?_, ?_, h.ne⟩
  · rw [uB_self]; exact (heap_set (heap_set (h.o8 hd) 0 v0) 1 v1).trans rfl
  · rw [uB_ne d (by decide : (3 : Nat) ≠ 2)]; exact (heap_set_ne (Ne.symm hne)).trans ((heap_set_ne (Ne.symm hne)).trans h.b9)
theorem CF.rs {R8 R9 : Nat} {x0 x1 x2 : Value} {sv : Array Value} {W0 W : World} {d : Nat → Bool} (h : CF R8 R9 sv #[x0, x1, x2] W0 d W) (hd : d 3 = false) : CF R8 R9 sv #[x0, x1, x2] W0 (updB d 3) (((W.setCell ⟨R9, 0, none⟩ x0).setCell ⟨R9, 1, none⟩ x1).setCell ⟨R9, 2, none⟩ x2) := by
  have hne := h.ne
  refine ⟨h.kept.trans (((Kept.setCell (D := fun k => k = R8 ∨ k = R9) (p := ⟨R9, 0, none⟩) _ (.inr rfl) _).trans (Kept.setCell (D := fun k => k = R8 ∨ k = R9) (p := ⟨R9, 1, none⟩) _ (.inr rfl) _)).trans (Kept.setCell (D := fun k => k = R8 ∨ k = R9) (p := ⟨R9, 2, none⟩) _ (.inr rfl) _)), ?_, ?_, h.ne⟩
  · rw [uB_ne d (by decide : (2 : Nat) ≠ 3)]; exact (heap_set_ne hne).trans ((heap_set_ne hne).trans ((heap_set_ne hne).trans h.b8))
  · rw [uB_self]; exact (heap_set (heap_set (heap_set (h.o9 hd) 0 x0) 1 x1) 2 x2).trans rfl

def fl_fin6 (B5 X R8 R9 : Nat) (s0 s1 x0 x1 x2 : Value) : List Fact := [
  fIs 30 (.agg #[s0, s1]),
  fIs 31 (.agg #[x0, x1, x2]),
  ⟨[], [], fun _ _ _ => True⟩,
  ⟨[], [], fun _ _ _ => True⟩]

theorem st_fin6 (B5 X R8 R9 : Nat) (s0 s1 x0 x1 x2 : Value) : ∀ F ∈ fl_fin6 B5 X R8 R9 s0 s1 x0 x1 x2, F.Stab :=
  stab_cons (fIs_stab _ _) <|
  stab_cons (fIs_stab _ _) <|
  stab_cons (fun _ _ _ _ _ h => h) <|
  stab_cons (fun _ _ _ _ _ h => h) stab_nil

theorem still_fin6 (B5 X R8 R9 : Nat) (s0 s1 x0 x1 x2 : Value) : ∀ j s d w w', (factsOf (fl_fin6 B5 X R8 R9 s0 s1 x0 x1 x2) j).body s d w → (factsOf (fl_fin6 B5 X R8 R9 s0 s1 x0 x1 x2) j).body s d w' := by
  intro j s d w w' hb
  rcases j with _ | _ | _ | _ | j
  all_goals exact hb

def fl_fin9 (B5 X R8 R9 : Nat) (s0 s1 x0 x1 x2 : Value) : List Fact := [
  fIs 42 (.agg #[s0, s1]),
  fIs 43 (.agg #[x0, x1, x2]),
  ⟨[], [], fun _ _ _ => True⟩,
  ⟨[], [], fun _ _ _ => True⟩]

theorem st_fin9 (B5 X R8 R9 : Nat) (s0 s1 x0 x1 x2 : Value) : ∀ F ∈ fl_fin9 B5 X R8 R9 s0 s1 x0 x1 x2, F.Stab :=
  stab_cons (fIs_stab _ _) <|
  stab_cons (fIs_stab _ _) <|
  stab_cons (fun _ _ _ _ _ h => h) <|
  stab_cons (fun _ _ _ _ _ h => h) stab_nil

theorem still_fin9 (B5 X R8 R9 : Nat) (s0 s1 x0 x1 x2 : Value) : ∀ j s d w w', (factsOf (fl_fin9 B5 X R8 R9 s0 s1 x0 x1 x2) j).body s d w → (factsOf (fl_fin9 B5 X R8 R9 s0 s1 x0 x1 x2) j).body s d w' := by
  intro j s d w w' hb
  rcases j with _ | _ | _ | _ | j
  all_goals exact hb

def fl_fin22 (B5 X R8 R9 : Nat) (s0 s1 x0 x1 x2 : Value) : List Fact := [
  fIs 94 (.agg #[s0, s1]),
  fIs 95 (.agg #[x0, x1, x2]),
  ⟨[], [], fun _ _ _ => True⟩,
  ⟨[], [], fun _ _ _ => True⟩]

theorem st_fin22 (B5 X R8 R9 : Nat) (s0 s1 x0 x1 x2 : Value) : ∀ F ∈ fl_fin22 B5 X R8 R9 s0 s1 x0 x1 x2, F.Stab :=
  stab_cons (fIs_stab _ _) <|
  stab_cons (fIs_stab _ _) <|
  stab_cons (fun _ _ _ _ _ h => h) <|
  stab_cons (fun _ _ _ _ _ h => h) stab_nil

theorem still_fin22 (B5 X R8 R9 : Nat) (s0 s1 x0 x1 x2 : Value) : ∀ j s d w w', (factsOf (fl_fin22 B5 X R8 R9 s0 s1 x0 x1 x2) j).body s d w → (factsOf (fl_fin22 B5 X R8 R9 s0 s1 x0 x1 x2) j).body s d w' := by
  intro j s d w w' hb
  rcases j with _ | _ | _ | _ | j
  all_goals exact hb

def fl_fin26 (B5 X R8 R9 : Nat) (s0 s1 x0 x1 x2 : Value) : List Fact := [
  fIs 109 (.agg #[s0, s1]),
  fIs 110 (.agg #[x0, x1, x2]),
  ⟨[], [], fun _ _ _ => True⟩,
  ⟨[], [], fun _ _ _ => True⟩]

theorem st_fin26 (B5 X R8 R9 : Nat) (s0 s1 x0 x1 x2 : Value) : ∀ F ∈ fl_fin26 B5 X R8 R9 s0 s1 x0 x1 x2, F.Stab :=
  stab_cons (fIs_stab _ _) <|
  stab_cons (fIs_stab _ _) <|
  stab_cons (fun _ _ _ _ _ h => h) <|
  stab_cons (fun _ _ _ _ _ h => h) stab_nil

theorem still_fin26 (B5 X R8 R9 : Nat) (s0 s1 x0 x1 x2 : Value) : ∀ j s d w w', (factsOf (fl_fin26 B5 X R8 R9 s0 s1 x0 x1 x2) j).body s d w → (factsOf (fl_fin26 B5 X R8 R9 s0 s1 x0 x1 x2) j).body s d w' := by
  intro j s d w w' hb
  rcases j with _ | _ | _ | _ | j
  all_goals exact hb

set_option maxRecDepth 100000 in
set_option maxHeartbeats 4000000 in
theorem l4Do_none (w0 : World) (a : Option Addr) (cap : Nat) (ms : List Rng) (g cw g' ch : Nat) (ws hs : List Int) (who : Int) (r : Req) (pd pl : Option Addr) (cd cl : Nat) (w : World)
    (hbw : Below w0.heap.size w0 w) (hm : RowOf w0 a ms) (hc : ms.length ≤ cap) (hc' : cap ≤ 9223372036854775807) (hr : ReqAt w0 r pd cd pl cl) (hMg : w0.heap.size ≤ g) (hMg' : w0.heap.size ≤ g') (hgg : g ≠ g')
    (hO : ORow 3 1 w g cw ws.length (ws.map (Value.int .i64))) (hO' : ORow 3 1 w g' ch hs.length (hs.map (Value.int .i64))) (hok : atmOkB ms ⟨ws, hs⟩ who r = true) (hk0 : wholeZ ms (burst r.addr r.many r.wrap) = -1) :
    Calls Tryz.prog 53 #[.slice a ms.length cap, .agg #[.slice (some ⟨g, 0, none⟩) ws.length cw, .slice (some ⟨g', 0, none⟩) hs.length ch], .int .i64 who, reqV r pd cd pl cl] w fun e w' =>
      ∃ px cx, e = .returned (.tuple #[.agg #[.slice (some ⟨g, 0, none⟩) ws.length cw, .slice (some ⟨g', 0, none⟩) hs.length ch], rspV (atmDo ms ⟨ws, hs⟩ who r).2 px cx]) ∧
        ORow 3 1 w' g cw ws.length ((atmDo ms ⟨ws, hs⟩ who r).1.words.map (Value.int .i64)) ∧ ORow 3 1 w' g' ch hs.length ((atmDo ms ⟨ws, hs⟩ who r).1.holds.map (Value.int .i64)) ∧
        OwnN w.heap.size w' px cx (atmDo ms ⟨ws, hs⟩ who r).2.data ∧ (atmDo ms ⟨ws, hs⟩ who r).2.data.length ≤ cx ∧ cx ≤ 9223372036854775807 ∧ Kept (fun k => k = g ∨ k = g') w w' := by
  have HK0 := Hid.intro hk0
  clear hk0
  have HM := Hid.intro hm
  have HR := Hid.intro hr
  have hgl := hO.lt
  have hgl' := hO'.lt
  obtain ⟨id, kind, addr, many, wrap, data, lanes⟩ := r
  have HOK := Hid.intro hok
  have hws := hbw.size
  unfold reqV
  have hb4 : ∀ o1 o2 o3 o4, Below w.heap.size w ((((w.alloc o1).alloc o2).alloc o3).alloc o4) := fun o1 o2 o3 o4 => ((((Below.refl _ w).alloc (Nat.le_refl _) o1).alloc (by simp) o2).alloc (by simp <;> omega) o3).alloc (by simp <;> omega) o4
  have HI := Hid.intro (And.intro hbw (And.intro hO hO'))
  clear hm hr hO hO' hbw hok
  go_enter Tryz.func53, Tryz.ntmps53
  go_wp2_with fail
  obtain ⟨W1, hW1⟩ : ∃ W1, ((((w.alloc (.cells #[.slice (some ⟨g, 0, none⟩) ws.length cw, .slice (some ⟨g', 0, none⟩) hs.length ch] 34)).alloc (.cells #[.int .i64 id, .int .i64 kind, .int .i64 addr, .int .i64 many, .bool wrap, .slice pd data.length cd, .slice pl lanes.length cl] 66)).alloc (.cells #[.slice none 0 0, .slice none 0 0] 34)).alloc (.cells #[.int .i64 0, .int .i64 0, .slice none 0 0] 63)) = W1 := ⟨_, rfl⟩
  have h1 : L4 w0 w g cw g' ch ws.length hs.length #[.int .i64 id, .int .i64 kind, .int .i64 addr, .int .i64 many, .bool wrap, .slice pd data.length cd, .slice pl lanes.length cl] ws hs W1 := by
    have hbw1 : Below w.heap.size w W1 := by rw [← hW1]; exact hb4 _ _ _ _
    refine ⟨HI.out.1.trans (hbw1.mono hws), ?_, ?_, ?_, ?_, HI.out.2.1.gr hbw1, HI.out.2.2.gr hbw1, Kept.of_below hbw1⟩
    · rw [← hW1]; exact (Below.heap_alloc _ _ _ (by simp <;> omega)).trans ((Below.heap_alloc _ _ _ (by simp <;> omega)).trans ((Below.heap_alloc _ _ _ (by simp)).trans (nw_at _ rfl)))
    · rw [← hW1]; exact (Below.heap_alloc _ _ _ (by simp <;> omega)).trans ((Below.heap_alloc _ _ _ (by simp)).trans (nw_at _ (by simp)))
    · rw [← hW1]; exact (Below.heap_alloc _ _ _ (by simp)).trans (nw_at _ (by simp))
    · rw [← hW1]; exact nw_at _ (by simp)
  rw [hW1]
  clear hW1 hb4 HI
  refine (spec_AdrBurst addr many wrap W1).mono ?_
  rintro e W2 ⟨gq, cq, rfl, hq2, hgq, hcq1, hcq2, hb2⟩
  have h2 := h1.gr hb2
  have hs1 := h1.size
  clear h1 hb2
  go_wp2_with fail
  refine (l1Whole_any a cap ms (some ⟨gq, 0, none⟩) cq (burst addr many wrap) W2 (HM.out.below h2.bel) hc hc' hq2 hcq1 hcq2).mono ?_
  rintro e W3 ⟨rfl, hb3⟩
  have h3 := h2.gr hb3
  have hq3 := hq2.below hb3
  have hs3 := h3.size
  clear h2 hb3 hq2
  have c70 : W3.cell? ⟨w.heap.size + 1, 0, none⟩ = some (.int .i64 id) := heap_cell h3.b7 0
  have hx : Gr W3 (W3.alloc (.cells #[.int .i64 id, .int .i64 1, .slice none 0 0] 63)) := below_nw _ _
  have h4 := h3.gr hx
  have hX : (W3.alloc (.cells #[.int .i64 id, .int .i64 1, .slice none 0 0] 63)).heap[W3.heap.size]? = some (.cells #[.int .i64 id, .int .i64 1, .slice none 0 0] 63 (0, 0)) := nw_at _ rfl
  have hq4 := hq3.below hx
  obtain ⟨hmo, hwo, hho, hhi, ⟨hw0, hw2⟩, hro⟩ := atmOk_parts HOK.out
  have HWL := Hid.intro (memOk_len hwo)
  have HHL := Hid.intro hho
  clear hho
  have HQ4 := Hid.intro hq4
  have H4 := Hid.intro h4
  clear h4 hq4 hx
  have hk : wholeZ ms (burst addr many wrap) = -1 := HK0.out
  have HZ : Hid ((atmDo ms ⟨ws, hs⟩ who ⟨id, kind, addr, many, wrap, data, lanes⟩) = (⟨ws, hs⟩, ⟨id, 4, []⟩)) := Hid.intro (by unfold atmDo; rw [if_pos (by simp only; omega)])
  rw [hk]
  go_wp2_with fail
  obtain ⟨W, hW⟩ : ∃ W, W3.alloc (.cells #[.int .i64 id, .int .i64 4, .slice none 0 0] 63) = W := ⟨_, rfl⟩
  have h4 : L4 w0 w g cw g' ch ws.length hs.length #[.int .i64 id, .int .i64 kind, .int .i64 addr, .int .i64 many, .bool wrap, .slice pd data.length cd, .slice pl lanes.length cl] ws hs W := by rw [← hW]; exact h3.gr (below_nw _ _)
  have hX4 : W.heap[W3.heap.size]? = some (.cells #[.int .i64 id, .int .i64 4, .slice none 0 0] 63 (0, 0)) := by rw [← hW]; exact nw_at _ rfl
  rw [hW]
  have hXs : w.heap.size + 4 ≤ W3.heap.size := h3.size
  clear hW h3 c70
  have hsz := h4.size
  have hl5 := heap_lt h4.b5
  have hlX := heap_lt hX4
  have HB5 := Hid.intro h4.b5
  have HXX := Hid.intro hX4
  have hn5 : ¬ (w.heap.size = w.heap.size + 1 + 1 ∨ w.heap.size = w.heap.size + 1 + 1 + 1) := by omega
  have hnX : ¬ (W3.heap.size = w.heap.size + 1 + 1 ∨ W3.heap.size = w.heap.size + 1 + 1 + 1) := by omega
  have H4 := Hid.intro h4
  clear h4
  refine wp_region_fl (by kernel_rfl) (fl_fin6 w.heap.size W3.heap.size (w.heap.size + 1 + 1) (w.heap.size + 1 + 1 + 1) (.slice (some ⟨g, 0, none⟩) ws.length cw) (.slice (some ⟨g', 0, none⟩) hs.length ch) (.int .i64 id) (.int .i64 4) (.slice none 0 0)) (CF (w.heap.size + 1 + 1) (w.heap.size + 1 + 1 + 1) #[.slice (some ⟨g, 0, none⟩) ws.length cw, .slice (some ⟨g', 0, none⟩) hs.length ch] #[.int .i64 id, .int .i64 4, .slice none 0 0] W) [30, 31] (by kernel_rfl) (by kernel_rfl) (by kernel_rfl) ?c0 ?looks ?done
  case looks =>
    intro hcl i o ho
    rcases i with _ | _ | _ | _ | i
    · simp at ho; subst ho
      refine fo_det (st_fin6 w.heap.size W3.heap.size (w.heap.size + 1 + 1) (w.heap.size + 1 + 1 + 1) (.slice (some ⟨g, 0, none⟩) ws.length cw) (.slice (some ⟨g', 0, none⟩) hs.length ch) (.int .i64 id) (.int .i64 4) (.slice none 0 0)) hcl rfl rfl rfl rfl (by kernel_rfl) (fun _ _ h => CF.step (by decide) (by decide) h) (fun done ρ W hat => ?_)
      have e5 : ρ (.tmp 5) = .pointer (some ⟨w.heap.size, 0, none⟩) := hat.out 5 (by kernel_rfl)
      have hC := hat.cls
      have hbx := (hC.kept.block _ hl5 hn5).trans HB5.out
      have c0 := (heap_cell hbx 0).trans rfl
      have c1 := (heap_cell hbx 1).trans rfl
      have hc := hat.con
      simp only [execOp, e5]
      go_simp
    · simp at ho; subst ho
      refine fo_det (st_fin6 w.heap.size W3.heap.size (w.heap.size + 1 + 1) (w.heap.size + 1 + 1 + 1) (.slice (some ⟨g, 0, none⟩) ws.length cw) (.slice (some ⟨g', 0, none⟩) hs.length ch) (.int .i64 id) (.int .i64 4) (.slice none 0 0)) hcl rfl rfl rfl rfl (by kernel_rfl) (fun _ _ h => CF.step (by decide) (by decide) h) (fun done ρ W hat => ?_)
      have e12 : ρ (.tmp 12) = .pointer (some ⟨W3.heap.size, 0, none⟩) := hat.out 12 (by kernel_rfl)
      have hC := hat.cls
      have hbx := (hC.kept.block _ hlX hnX).trans HXX.out
      have c0 := (heap_cell hbx 0).trans rfl
      have c1 := (heap_cell hbx 1).trans rfl
      have c2 := (heap_cell hbx 2).trans rfl
      have hc := hat.con
      simp only [execOp, e12]
      go_simp
    · simp at ho; subst ho
      refine fo_rel (S := fun _ _ => True) (E := []) (fun jj _ ss dd wa wb _ hbd => still_fin6 w.heap.size W3.heap.size (w.heap.size + 1 + 1) (w.heap.size + 1 + 1 + 1) (.slice (some ⟨g, 0, none⟩) ws.length cw) (.slice (some ⟨g', 0, none⟩) hs.length ch) (.int .i64 id) (.int .i64 4) (.slice none 0 0) jj ss dd wa wb hbd) hcl rfl rfl (fun done ρ W hat => ?_)
      have e8 : ρ (.tmp 8) = .pointer (some ⟨(w.heap.size + 1 + 1), 0, none⟩) := hat.out 8 (by kernel_rfl)
      have e30 : ρ (.tmp 30) = .agg #[(.slice (some ⟨g, 0, none⟩) ws.length cw), (.slice (some ⟨g', 0, none⟩) hs.length ch)] := fIs_at (d := 30) (v := .agg #[(.slice (some ⟨g, 0, none⟩) ws.length cw), (.slice (some ⟨g', 0, none⟩) hs.length ch)]) (hat.fact 0 (by kernel_rfl))
      have hC := hat.cls
      have hbx := hC.o8 hat.new
      have c0 := (heap_cell hbx 0).trans rfl
      have c1 := (heap_cell hbx 1).trans rfl
      have f0 := heap_free hbx 0
      have f1 := heap_free hbx 1
      refine up_skip ((W.setCell ⟨(w.heap.size + 1 + 1), 0, none⟩ (.slice (some ⟨g, 0, none⟩) ws.length cw)).setCell ⟨(w.heap.size + 1 + 1), 1, none⟩ (.slice (some ⟨g', 0, none⟩) hs.length ch)) (by simp only [execOp]; go_simp) ⟨hC.st hat.new, trivial, trivial, fun j hj hcj => ?_⟩
      exact free_spec (X := fun _ => _) (by kernel_rfl) hat.lt j hj (by simpa using hcj)
    · simp at ho; subst ho
      refine fo_rel (S := fun _ _ => True) (E := []) (fun jj _ ss dd wa wb _ hbd => still_fin6 w.heap.size W3.heap.size (w.heap.size + 1 + 1) (w.heap.size + 1 + 1 + 1) (.slice (some ⟨g, 0, none⟩) ws.length cw) (.slice (some ⟨g', 0, none⟩) hs.length ch) (.int .i64 id) (.int .i64 4) (.slice none 0 0) jj ss dd wa wb hbd) hcl rfl rfl (fun done ρ W hat => ?_)
      have e9 : ρ (.tmp 9) = .pointer (some ⟨(w.heap.size + 1 + 1 + 1), 0, none⟩) := hat.out 9 (by kernel_rfl)
      have e31 : ρ (.tmp 31) = .agg #[(.int .i64 id), (.int .i64 4), (.slice none 0 0)] := fIs_at (d := 31) (v := .agg #[(.int .i64 id), (.int .i64 4), (.slice none 0 0)]) (hat.fact 1 (by kernel_rfl))
      have hC := hat.cls
      have hbx := hC.o9 hat.new
      have c0 := (heap_cell hbx 0).trans rfl
      have c1 := (heap_cell hbx 1).trans rfl
      have c2 := (heap_cell hbx 2).trans rfl
      have f0 := heap_free hbx 0
      have f1 := heap_free hbx 1
      have f2 := heap_free hbx 2
      refine up_skip (((W.setCell ⟨(w.heap.size + 1 + 1 + 1), 0, none⟩ (.int .i64 id)).setCell ⟨(w.heap.size + 1 + 1 + 1), 1, none⟩ (.int .i64 4)).setCell ⟨(w.heap.size + 1 + 1 + 1), 2, none⟩ (.slice none 0 0)) (by simp only [execOp]; go_simp) ⟨hC.rs hat.new, trivial, trivial, fun j hj hcj => ?_⟩
      exact free_spec (X := fun _ => _) (by kernel_rfl) hat.lt j hj (by simpa using hcj)
    · simp at ho
  case c0 => exact ⟨Kept.drew _ _, H4.out.b8, H4.out.b9, by omega⟩
  case done =>
    intro f WW hC hf hout
    have h8 : WW.heap[w.heap.size + 1 + 1]? = some (.cells #[.slice (some ⟨g, 0, none⟩) ws.length cw, .slice (some ⟨g', 0, none⟩) hs.length ch] 34 (0, 0)) := hC.b8
    have h9 : WW.heap[w.heap.size + 1 + 1 + 1]? = some (.cells #[.int .i64 id, .int .i64 4, .slice none 0 0] 63 (0, 0)) := hC.b9
    have s0 : WW.cell? ⟨w.heap.size + 1 + 1, 0, none⟩ = some (.slice (some ⟨g, 0, none⟩) ws.length cw) := heap_cell h8 0
    have s1 : WW.cell? ⟨w.heap.size + 1 + 1, 1, none⟩ = some (.slice (some ⟨g', 0, none⟩) hs.length ch) := heap_cell h8 1
    have y0 : WW.cell? ⟨w.heap.size + 1 + 1 + 1, 0, none⟩ = some (.int .i64 id) := heap_cell h9 0
    have y1 : WW.cell? ⟨w.heap.size + 1 + 1 + 1, 1, none⟩ = some (.int .i64 4) := heap_cell h9 1
    have y2 : WW.cell? ⟨w.heap.size + 1 + 1 + 1, 2, none⟩ = some (.slice none 0 0) := heap_cell h9 2
    have HW := Hid.intro hC.kept
    clear hC hf hout h8 h9
    simp only [fill]
    go_simp
    go_wp2
    refine bodyPost_ret (v := .tuple #[.agg #[.slice (some ⟨g, 0, none⟩) ws.length cw, .slice (some ⟨g', 0, none⟩) hs.length ch], .agg #[.int .i64 id, .int .i64 4, .slice none 0 0]]) (by simp [results, Tryz.results53, go_sem, s0, s1, y0, y1, y2]) rfl ?_
    rw [HZ.out]
    have hfl := H4.out.row.lt
    have hfl' := H4.out.row'.lt
    refine ⟨none, 0, rfl, H4.out.row.of (HW.out.block g hfl (by omega)), H4.out.row'.of (HW.out.block g' hfl' (by omega)), .inl rfl, by simp, by omega, ?_⟩
    exact ⟨HW.out.os.trans H4.out.kept.os, HW.out.tape.trans H4.out.kept.tape, HW.out.output.trans H4.out.kept.output, Nat.le_trans H4.out.kept.size HW.out.size, fun i hi hne => (HW.out.block i (by have := H4.out.kept.size; omega) (by omega)).trans (H4.out.kept.block i hi hne)⟩


end Go.Proofs.YtpamjkkghghggaaGreat

/-
  l4Do of the model, Kind 1.
-/
namespace Go.Proofs.YtpamjkkghghggaaGreat
open Go.RowKit
set_option linter.unusedSimpArgs false
set_option linter.unusedVariables false

set_option maxRecDepth 100000 in
set_option maxHeartbeats 4000000 in
theorem l4Do_1 (w0 : World) (a : Option Addr) (cap : Nat) (ms : List Rng) (g cw g' ch : Nat) (ws hs : List Int) (who : Int) (r : Req) (pd pl : Option Addr) (cd cl : Nat) (w : World)
    (hbw : Below w0.heap.size w0 w) (hm : RowOf w0 a ms) (hc : ms.length ≤ cap) (hc' : cap ≤ 9223372036854775807) (hr : ReqAt w0 r pd cd pl cl) (hMg : w0.heap.size ≤ g) (hMg' : w0.heap.size ≤ g') (hgg : g ≠ g')
    (hO : ORow 3 1 w g cw ws.length (ws.map (Value.int .i64))) (hO' : ORow 3 1 w g' ch hs.length (hs.map (Value.int .i64))) (hok : atmOkB ms ⟨ws, hs⟩ who r = true) (k : Nat) (hk : k < ms.length) (hke0 : wholeZ ms (burst r.addr r.many r.wrap) = (k : Int)) (hkd : r.kind = 1) :
    Calls Tryz.prog 53 #[.slice a ms.length cap, .agg #[.slice (some ⟨g, 0, none⟩) ws.length cw, .slice (some ⟨g', 0, none⟩) hs.length ch], .int .i64 who, reqV r pd cd pl cl] w fun e w' =>
      ∃ px cx, e = .returned (.tuple #[.agg #[.slice (some ⟨g, 0, none⟩) ws.length cw, .slice (some ⟨g', 0, none⟩) hs.length ch], rspV (atmDo ms ⟨ws, hs⟩ who r).2 px cx]) ∧
        ORow 3 1 w' g cw ws.length ((atmDo ms ⟨ws, hs⟩ who r).1.words.map (Value.int .i64)) ∧ ORow 3 1 w' g' ch hs.length ((atmDo ms ⟨ws, hs⟩ who r).1.holds.map (Value.int .i64)) ∧
        OwnN w.heap.size w' px cx (atmDo ms ⟨ws, hs⟩ who r).2.data ∧ (atmDo ms ⟨ws, hs⟩ who r).2.data.length ≤ cx ∧ cx ≤ 9223372036854775807 ∧ Kept (fun k => k = g ∨ k = g') w w' := by
  have HK0 := Hid.intro hke0
  have HKD := Hid.intro hkd
  clear hke0 hkd
  have HM := Hid.intro hm
  have HR := Hid.intro hr
  have hgl := hO.lt
  have hgl' := hO'.lt
  obtain ⟨id, kind, addr, many, wrap, data, lanes⟩ := r
  have HOK := Hid.intro hok
  have hws := hbw.size
  unfold reqV
  have hb4 : ∀ o1 o2 o3 o4, Below w.heap.size w ((((w.alloc o1).alloc o2).alloc o3).alloc o4) := fun o1 o2 o3 o4 => ((((Below.refl _ w).alloc (Nat.le_refl _) o1).alloc (by simp) o2).alloc (by simp <;> omega) o3).alloc (by simp <;> omega) o4
  have HI := Hid.intro (And.intro hbw (And.intro hO hO'))
  clear hm hr hO hO' hbw hok
  go_enter Tryz.func53, Tryz.ntmps53
  go_wp2_with fail
  obtain ⟨W1, hW1⟩ : ∃ W1, ((((w.alloc (.cells #[.slice (some ⟨g, 0, none⟩) ws.length cw, .slice (some ⟨g', 0, none⟩) hs.length ch] 34)).alloc (.cells #[.int .i64 id, .int .i64 kind, .int .i64 addr, .int .i64 many, .bool wrap, .slice pd data.length cd, .slice pl lanes.length cl] 66)).alloc (.cells #[.slice none 0 0, .slice none 0 0] 34)).alloc (.cells #[.int .i64 0, .int .i64 0, .slice none 0 0] 63)) = W1 := ⟨_, rfl⟩
  have h1 : L4 w0 w g cw g' ch ws.length hs.length #[.int .i64 id, .int .i64 kind, .int .i64 addr, .int .i64 many, .bool wrap, .slice pd data.length cd, .slice pl lanes.length cl] ws hs W1 := by
    have hbw1 : Below w.heap.size w W1 := by rw [← hW1]; exact hb4 _ _ _ _
    refine ⟨HI.out.1.trans (hbw1.mono hws), ?_, ?_, ?_, ?_, HI.out.2.1.gr hbw1, HI.out.2.2.gr hbw1, Kept.of_below hbw1⟩
    · rw [← hW1]; exact (Below.heap_alloc _ _ _ (by simp <;> omega)).trans ((Below.heap_alloc _ _ _ (by simp <;> omega)).trans ((Below.heap_alloc _ _ _ (by simp)).trans (nw_at _ rfl)))
    · rw [← hW1]; exact (Below.heap_alloc _ _ _ (by simp <;> omega)).trans ((Below.heap_alloc _ _ _ (by simp)).trans (nw_at _ (by simp)))
    · rw [← hW1]; exact (Below.heap_alloc _ _ _ (by simp)).trans (nw_at _ (by simp))
    · rw [← hW1]; exact nw_at _ (by simp)
  rw [hW1]
  clear hW1 hb4 HI
  refine (spec_AdrBurst addr many wrap W1).mono ?_
  rintro e W2 ⟨gq, cq, rfl, hq2, hgq, hcq1, hcq2, hb2⟩
  have h2 := h1.gr hb2
  have hs1 := h1.size
  clear h1 hb2
  go_wp2_with fail
  refine (l1Whole_any a cap ms (some ⟨gq, 0, none⟩) cq (burst addr many wrap) W2 (HM.out.below h2.bel) hc hc' hq2 hcq1 hcq2).mono ?_
  rintro e W3 ⟨rfl, hb3⟩
  have h3 := h2.gr hb3
  have hq3 := hq2.below hb3
  have hs3 := h3.size
  clear h2 hb3 hq2
  have c70 : W3.cell? ⟨w.heap.size + 1, 0, none⟩ = some (.int .i64 id) := heap_cell h3.b7 0
  have hx : Gr W3 (W3.alloc (.cells #[.int .i64 id, .int .i64 1, .slice none 0 0] 63)) := below_nw _ _
  have h4 := h3.gr hx
  have hX : (W3.alloc (.cells #[.int .i64 id, .int .i64 1, .slice none 0 0] 63)).heap[W3.heap.size]? = some (.cells #[.int .i64 id, .int .i64 1, .slice none 0 0] 63 (0, 0)) := nw_at _ rfl
  have hq4 := hq3.below hx
  obtain ⟨hmo, hwo, hho, hhi, ⟨hw0, hw2⟩, hro⟩ := atmOk_parts HOK.out
  have HWL := Hid.intro (memOk_len hwo)
  have HHL := Hid.intro hho
  clear hho
  have HQ4 := Hid.intro hq4
  have H4 := Hid.intro h4
  clear h4 hq4 hx
  have hke : wholeZ ms (burst addr many wrap) = (k : Int) := HK0.out
  rw [hke]
  obtain ⟨hid, hadr, hkinds⟩ := req_parts hro
  simp only at hid hadr hkinds
  have hk0 : (0 : Int) ≤ (k : Int) := by omega
  have hk1 : (k : Int) < (ms.length : Int) := by omega
  have hk2 : ¬ ((k : Int) < 0) := by omega
  have h4 := H4.out
  have HW := Hid.intro (fun W => writes_any ⟨id, kind, addr, many, wrap, data, lanes⟩ pd pl cd cl W)
  unfold reqV at HW
  have c70' : (W3.alloc (.cells #[.int .i64 id, .int .i64 1, .slice none 0 0] 63)).cell? ⟨w.heap.size + 1, 0, none⟩ = some (.int .i64 id) := heap_cell h4.b7 0
  have c71' : (W3.alloc (.cells #[.int .i64 id, .int .i64 1, .slice none 0 0] 63)).cell? ⟨w.heap.size + 1, 1, none⟩ = some (.int .i64 kind) := heap_cell h4.b7 1
  have c72' : (W3.alloc (.cells #[.int .i64 id, .int .i64 1, .slice none 0 0] 63)).cell? ⟨w.heap.size + 1, 2, none⟩ = some (.int .i64 addr) := heap_cell h4.b7 2
  have c73' : (W3.alloc (.cells #[.int .i64 id, .int .i64 1, .slice none 0 0] 63)).cell? ⟨w.heap.size + 1, 3, none⟩ = some (.int .i64 many) := heap_cell h4.b7 3
  have c74' : (W3.alloc (.cells #[.int .i64 id, .int .i64 1, .slice none 0 0] 63)).cell? ⟨w.heap.size + 1, 4, none⟩ = some (.bool wrap) := heap_cell h4.b7 4
  have c75' : (W3.alloc (.cells #[.int .i64 id, .int .i64 1, .slice none 0 0] 63)).cell? ⟨w.heap.size + 1, 5, none⟩ = some (.slice pd data.length cd) := heap_cell h4.b7 5
  have c76' : (W3.alloc (.cells #[.int .i64 id, .int .i64 1, .slice none 0 0] 63)).cell? ⟨w.heap.size + 1, 6, none⟩ = some (.slice pl lanes.length cl) := heap_cell h4.b7 6
  have hXs : w.heap.size + 4 ≤ W3.heap.size := h3.size
  go_wp2_with fail
  refine (HW.out _).mono ?_
  rintro e W5 ⟨rfl, hb5⟩
  have h5 := h4.gr hb5
  have hX5 := Gr.cells hb5 hX
  have hq5 := HQ4.out.below hb5
  have hr5 := h5.row
  have hs5 := h5.size
  have hXl : W3.heap.size < W5.heap.size := heap_lt hX5
  have hgqX : gq < W3.heap.size := by rcases hq3 with hx | ⟨b, off, e, hlt, _⟩
                                      · exfalso; obtain ⟨_, _, h3', _⟩ := (adrOk_iff addr many wrap).1 hadr; rw [burst_ok hadr] at hx; have := congrArg List.length hx; simp at this; omega
                                      · cases e; exact hlt
  clear hb5 h4 c70' c71' c72' c73' c74' c75' c76' c70 HW hX h3 hq3 HQ4 H4
  obtain ⟨X, hXe⟩ : ∃ X, X = W3.heap.size := ⟨_, rfl⟩
  rw [← hXe] at hXs hX5 hXl hgqX ⊢
  clear hXe
  rcases (HM.out.below h5.bel) with hx | ⟨bm, om, rfl, hbm, hcm⟩
  · subst hx; simp at hk
  obtain ⟨m0, m1, m2, m3⟩ := hcm k hk
  clear m0 m1 m2 hcm
  have hws0 : w0.heap.size ≤ w.heap.size := hws
  have hkd : kind = 1 := HKD.out
  clear HKD
  subst hkd
  rcases hkinds with ⟨e, hdl, hll⟩ | ⟨e, hdl, hll⟩ | ⟨e, hmy, hdl, hll⟩ | ⟨e, hmy, hdl, hll⟩
  · have HZ : Hid ((atmDo ms ⟨ws, hs⟩ who ⟨id, 1, addr, many, wrap, data, lanes⟩) = (⟨ws, hs⟩, ⟨id, 1, getAll ws (burst addr many wrap)⟩)) := Hid.intro (by unfold atmDo; simp only [hke]; simp [writesB, hk2])
    have hwB : writesB ⟨id, 1, addr, many, wrap, data, lanes⟩ = false := by simp [writesB]
    rw [hwB]
    have c50 : W5.cell? ⟨w.heap.size, 0, none⟩ = some (.slice (some ⟨g, 0, none⟩) ws.length cw) := heap_cell h5.b5 0
    have c51 : W5.cell? ⟨w.heap.size, 1, none⟩ = some (.slice (some ⟨g', 0, none⟩) hs.length ch) := heap_cell h5.b5 1
    have c70 : W5.cell? ⟨w.heap.size + 1, 0, none⟩ = some (.int .i64 id) := heap_cell h5.b7 0
    have c71 : W5.cell? ⟨w.heap.size + 1, 1, none⟩ = some (.int .i64 1) := heap_cell h5.b7 1
    have c72 : W5.cell? ⟨w.heap.size + 1, 2, none⟩ = some (.int .i64 addr) := heap_cell h5.b7 2
    have c73 : W5.cell? ⟨w.heap.size + 1, 3, none⟩ = some (.int .i64 many) := heap_cell h5.b7 3
    have c74 : W5.cell? ⟨w.heap.size + 1, 4, none⟩ = some (.bool wrap) := heap_cell h5.b7 4
    have c75 : W5.cell? ⟨w.heap.size + 1, 5, none⟩ = some (.slice pd data.length cd) := heap_cell h5.b7 5
    have c76 : W5.cell? ⟨w.heap.size + 1, 6, none⟩ = some (.slice pl lanes.length cl) := heap_cell h5.b7 6
    have c80 : W5.cell? ⟨w.heap.size + 1 + 1, 0, none⟩ = some (.slice none 0 0) := heap_cell h5.b8 0
    have f80 := heap_free h5.b8 0
    have c81 : W5.cell? ⟨w.heap.size + 1 + 1, 1, none⟩ = some (.slice none 0 0) := heap_cell h5.b8 1
    have f81 := heap_free h5.b8 1
    have c90 : W5.cell? ⟨w.heap.size + 1 + 1 + 1, 0, none⟩ = some (.int .i64 0) := heap_cell h5.b9 0
    have f90 := heap_free h5.b9 0
    have c91 : W5.cell? ⟨w.heap.size + 1 + 1 + 1, 1, none⟩ = some (.int .i64 0) := heap_cell h5.b9 1
    have f91 := heap_free h5.b9 1
    have c92 : W5.cell? ⟨w.heap.size + 1 + 1 + 1, 2, none⟩ = some (.slice none 0 0) := heap_cell h5.b9 2
    have f92 := heap_free h5.b9 2
    go_wp2_with fail
    refine (spec_l2Get (some ⟨g, 0, none⟩) cw ws (some ⟨gq, 0, none⟩) cq (burst addr many wrap) W5 (h5.row.ints) hq5 (by have := burst_le addr many wrap; omega) (fun x hx => by have := burst_in x hx; have h64 : ws.length = 64 := HWL.out; omega)).mono ?_
    rintro e W6 ⟨gx, cx, rfl, hOx, hcx1, hcx2, hgx, hb6⟩
    have h6 := h5.gr hb6
    have hX6 := Gr.cells hb6 hX5
    have hgxl := hOx.lt
    have hX6l := heap_lt hX6
    clear c50 c51 c70 c71 c72 c73 c74 c75 c76 c80 c81 c90 c91 c92 f80 f81 f90 f91 f92
    have x0 : W6.cell? ⟨X, 0, none⟩ = some (.int .i64 id) := heap_cell hX6 0
    have x1 : W6.cell? ⟨X, 1, none⟩ = some (.int .i64 1) := heap_cell hX6 1
    have x2 : W6.cell? ⟨X, 2, none⟩ = some (.slice none 0 0) := heap_cell hX6 2
    have fx1 := heap_free hX6 1
    have fx2 := heap_free hX6 2
    go_wp2_with fail
    obtain ⟨W, hW⟩ : ∃ W, W6.setCell ⟨X, 2, none⟩ (.slice (some ⟨gx, 0, none⟩) (getAll ws (burst addr many wrap)).length cx) = W := ⟨_, rfl⟩
    have h7 : L4 w0 w g cw g' ch ws.length hs.length #[.int .i64 id, .int .i64 1, .int .i64 addr, .int .i64 many, .bool wrap, .slice pd data.length cd, .slice pl lanes.length cl] ws hs W := by rw [← hW]; exact h6.setX hXs hgl hgl' hws0 2 _
    have hX7 : W.heap[X]? = some (.cells #[.int .i64 id, .int .i64 1, (.slice (some ⟨gx, 0, none⟩) (getAll ws (burst addr many wrap)).length cx)] 63 (0, 0)) := by rw [← hW]; exact (heap_set hX6 2 _).trans rfl
    have hO7 : ORow 3 1 W gx cx (getAll ws (burst addr many wrap)).length ((getAll ws (burst addr many wrap)).map (Value.int .i64)) := by rw [← hW]; exact hOx.of (heap_set_ne (by omega))
    rw [hW]
    have hgxX : w.heap.size + 4 ≤ gx := by omega
    have hO7l := hO7.lt
    clear x0 x1 x2 fx1 fx2 hW h6 hX6 hOx hb6 h5 hX5 m3
    have hsz := h7.size
    have hl5 := heap_lt h7.b5
    have hlX := heap_lt hX7
    have HB5 := Hid.intro h7.b5
    have HXX := Hid.intro hX7
    have hn5 : ¬ (w.heap.size = w.heap.size + 1 + 1 ∨ w.heap.size = w.heap.size + 1 + 1 + 1) := by omega
    have hnX : ¬ (X = w.heap.size + 1 + 1 ∨ X = w.heap.size + 1 + 1 + 1) := by omega
    have H4 := Hid.intro h7
    clear h7
    refine wp_region_fl (by kernel_rfl) (fl_fin26 w.heap.size X (w.heap.size + 1 + 1) (w.heap.size + 1 + 1 + 1) (.slice (some ⟨g, 0, none⟩) ws.length cw) (.slice (some ⟨g', 0, none⟩) hs.length ch) (.int .i64 id) (.int .i64 1) (.slice (some ⟨gx, 0, none⟩) (getAll ws (burst addr many wrap)).length cx)) (CF (w.heap.size + 1 + 1) (w.heap.size + 1 + 1 + 1) #[.slice (some ⟨g, 0, none⟩) ws.length cw, .slice (some ⟨g', 0, none⟩) hs.length ch] #[.int .i64 id, .int .i64 1, .slice (some ⟨gx, 0, none⟩) (getAll ws (burst addr many wrap)).length cx] W) [109, 110] (by kernel_rfl) (by kernel_rfl) (by kernel_rfl) ?c0 ?looks ?done
    case looks =>
      intro hcl i o ho
      rcases i with _ | _ | _ | _ | i
      · simp at ho; subst ho
        refine fo_det (st_fin26 w.heap.size X (w.heap.size + 1 + 1) (w.heap.size + 1 + 1 + 1) (.slice (some ⟨g, 0, none⟩) ws.length cw) (.slice (some ⟨g', 0, none⟩) hs.length ch) (.int .i64 id) (.int .i64 1) (.slice (some ⟨gx, 0, none⟩) (getAll ws (burst addr many wrap)).length cx)) hcl rfl rfl rfl rfl (by kernel_rfl) (fun _ _ h => CF.step (by decide) (by decide) h) (fun done ρ W hat => ?_)
        have e5 : ρ (.tmp 5) = .pointer (some ⟨w.heap.size, 0, none⟩) := hat.out 5 (by kernel_rfl)
        have hC := hat.cls
        have hbx := (hC.kept.block _ hl5 hn5).trans HB5.out
        have c0 := (heap_cell hbx 0).trans rfl
        have c1 := (heap_cell hbx 1).trans rfl
        have hc := hat.con
        simp only [execOp, e5]
        go_simp
      · simp at ho; subst ho
        refine fo_det (st_fin26 w.heap.size X (w.heap.size + 1 + 1) (w.heap.size + 1 + 1 + 1) (.slice (some ⟨g, 0, none⟩) ws.length cw) (.slice (some ⟨g', 0, none⟩) hs.length ch) (.int .i64 id) (.int .i64 1) (.slice (some ⟨gx, 0, none⟩) (getAll ws (burst addr many wrap)).length cx)) hcl rfl rfl rfl rfl (by kernel_rfl) (fun _ _ h => CF.step (by decide) (by decide) h) (fun done ρ W hat => ?_)
        have e12 : ρ (.tmp 12) = .pointer (some ⟨X, 0, none⟩) := hat.out 12 (by kernel_rfl)
        have hC := hat.cls
        have hbx := (hC.kept.block _ hlX hnX).trans HXX.out
        have c0 := (heap_cell hbx 0).trans rfl
        have c1 := (heap_cell hbx 1).trans rfl
        have c2 := (heap_cell hbx 2).trans rfl
        have hc := hat.con
        simp only [execOp, e12]
        go_simp
      · simp at ho; subst ho
        refine fo_rel (S := fun _ _ => True) (E := []) (fun jj _ ss dd wa wb _ hbd => still_fin26 w.heap.size X (w.heap.size + 1 + 1) (w.heap.size + 1 + 1 + 1) (.slice (some ⟨g, 0, none⟩) ws.length cw) (.slice (some ⟨g', 0, none⟩) hs.length ch) (.int .i64 id) (.int .i64 1) (.slice (some ⟨gx, 0, none⟩) (getAll ws (burst addr many wrap)).length cx) jj ss dd wa wb hbd) hcl rfl rfl (fun done ρ W hat => ?_)
        have e8 : ρ (.tmp 8) = .pointer (some ⟨(w.heap.size + 1 + 1), 0, none⟩) := hat.out 8 (by kernel_rfl)
        have e109 : ρ (.tmp 109) = .agg #[(.slice (some ⟨g, 0, none⟩) ws.length cw), (.slice (some ⟨g', 0, none⟩) hs.length ch)] := fIs_at (d := 109) (v := .agg #[(.slice (some ⟨g, 0, none⟩) ws.length cw), (.slice (some ⟨g', 0, none⟩) hs.length ch)]) (hat.fact 0 (by kernel_rfl))
        have hC := hat.cls
        have hbx := hC.o8 hat.new
        have c0 := (heap_cell hbx 0).trans rfl
        have c1 := (heap_cell hbx 1).trans rfl
        have f0 := heap_free hbx 0
        have f1 := heap_free hbx 1
        refine up_skip ((W.setCell ⟨(w.heap.size + 1 + 1), 0, none⟩ (.slice (some ⟨g, 0, none⟩) ws.length cw)).setCell ⟨(w.heap.size + 1 + 1), 1, none⟩ (.slice (some ⟨g', 0, none⟩) hs.length ch)) (by simp only [execOp]; go_simp) ⟨hC.st hat.new, trivial, trivial, fun j hj hcj => ?_⟩
        exact free_spec (X := fun _ => _) (by kernel_rfl) hat.lt j hj (by simpa using hcj)
      · simp at ho; subst ho
        refine fo_rel (S := fun _ _ => True) (E := []) (fun jj _ ss dd wa wb _ hbd => still_fin26 w.heap.size X (w.heap.size + 1 + 1) (w.heap.size + 1 + 1 + 1) (.slice (some ⟨g, 0, none⟩) ws.length cw) (.slice (some ⟨g', 0, none⟩) hs.length ch) (.int .i64 id) (.int .i64 1) (.slice (some ⟨gx, 0, none⟩) (getAll ws (burst addr many wrap)).length cx) jj ss dd wa wb hbd) hcl rfl rfl (fun done ρ W hat => ?_)
        have e9 : ρ (.tmp 9) = .pointer (some ⟨(w.heap.size + 1 + 1 + 1), 0, none⟩) := hat.out 9 (by kernel_rfl)
        have e110 : ρ (.tmp 110) = .agg #[(.int .i64 id), (.int .i64 1), (.slice (some ⟨gx, 0, none⟩) (getAll ws (burst addr many wrap)).length cx)] := fIs_at (d := 110) (v := .agg #[(.int .i64 id), (.int .i64 1), (.slice (some ⟨gx, 0, none⟩) (getAll ws (burst addr many wrap)).length cx)]) (hat.fact 1 (by kernel_rfl))
        have hC := hat.cls
        have hbx := hC.o9 hat.new
        have c0 := (heap_cell hbx 0).trans rfl
        have c1 := (heap_cell hbx 1).trans rfl
        have c2 := (heap_cell hbx 2).trans rfl
        have f0 := heap_free hbx 0
        have f1 := heap_free hbx 1
        have f2 := heap_free hbx 2
        refine up_skip (((W.setCell ⟨(w.heap.size + 1 + 1 + 1), 0, none⟩ (.int .i64 id)).setCell ⟨(w.heap.size + 1 + 1 + 1), 1, none⟩ (.int .i64 1)).setCell ⟨(w.heap.size + 1 + 1 + 1), 2, none⟩ (.slice (some ⟨gx, 0, none⟩) (getAll ws (burst addr many wrap)).length cx)) (by simp only [execOp]; go_simp) ⟨hC.rs hat.new, trivial, trivial, fun j hj hcj => ?_⟩
        exact free_spec (X := fun _ => _) (by kernel_rfl) hat.lt j hj (by simpa using hcj)
      · simp at ho
    case c0 => exact ⟨Kept.drew _ _, H4.out.b8, H4.out.b9, by omega⟩
    case done =>
      intro f WW hC hf hout
      have h8 : WW.heap[w.heap.size + 1 + 1]? = some (.cells #[.slice (some ⟨g, 0, none⟩) ws.length cw, .slice (some ⟨g', 0, none⟩) hs.length ch] 34 (0, 0)) := hC.b8
      have h9 : WW.heap[w.heap.size + 1 + 1 + 1]? = some (.cells #[.int .i64 id, .int .i64 1, .slice (some ⟨gx, 0, none⟩) (getAll ws (burst addr many wrap)).length cx] 63 (0, 0)) := hC.b9
      have s0 : WW.cell? ⟨w.heap.size + 1 + 1, 0, none⟩ = some (.slice (some ⟨g, 0, none⟩) ws.length cw) := heap_cell h8 0
      have s1 : WW.cell? ⟨w.heap.size + 1 + 1, 1, none⟩ = some (.slice (some ⟨g', 0, none⟩) hs.length ch) := heap_cell h8 1
      have y0 : WW.cell? ⟨w.heap.size + 1 + 1 + 1, 0, none⟩ = some (.int .i64 id) := heap_cell h9 0
      have y1 : WW.cell? ⟨w.heap.size + 1 + 1 + 1, 1, none⟩ = some (.int .i64 1) := heap_cell h9 1
      have y2 : WW.cell? ⟨w.heap.size + 1 + 1 + 1, 2, none⟩ = some (.slice (some ⟨gx, 0, none⟩) (getAll ws (burst addr many wrap)).length cx) := heap_cell h9 2
      have HW := Hid.intro hC.kept
      clear hC hf hout h8 h9
      simp only [fill]
      go_simp
      go_wp2
      refine bodyPost_ret (v := .tuple #[.agg #[.slice (some ⟨g, 0, none⟩) ws.length cw, .slice (some ⟨g', 0, none⟩) hs.length ch], .agg #[.int .i64 id, .int .i64 1, .slice (some ⟨gx, 0, none⟩) (getAll ws (burst addr many wrap)).length cx]]) (by simp [results, Tryz.results53, go_sem, s0, s1, y0, y1, y2]) rfl ?_
      rw [HZ.out]
      have hfl := H4.out.row.lt
      have hfl' := H4.out.row'.lt
      refine ⟨(some ⟨gx, 0, none⟩), cx, rfl, H4.out.row.of (HW.out.block g hfl (by omega)), H4.out.row'.of (HW.out.block g' hfl' (by omega)), .inr ⟨gx, rfl, by omega, hO7.of (HW.out.block gx hO7l (by omega))⟩, hcx1, by omega, ?_⟩
      exact ⟨HW.out.os.trans H4.out.kept.os, HW.out.tape.trans H4.out.kept.tape, HW.out.output.trans H4.out.kept.output, Nat.le_trans H4.out.kept.size HW.out.size, fun i hi hne => (HW.out.block i (by have := H4.out.kept.size; omega) (by omega)).trans (H4.out.kept.block i hi hne)⟩
  · exact absurd e (by decide)
  · exact absurd e (by decide)
  · exact absurd e (by decide)

end Go.Proofs.YtpamjkkghghggaaGreat

/-
  l4Do of the model, Kind 2.
-/
namespace Go.Proofs.YtpamjkkghghggaaGreat
open Go.RowKit
set_option linter.unusedSimpArgs false
set_option linter.unusedVariables false

set_option maxRecDepth 100000 in
set_option maxHeartbeats 4000000 in
theorem l4Do_2 (w0 : World) (a : Option Addr) (cap : Nat) (ms : List Rng) (g cw g' ch : Nat) (ws hs : List Int) (who : Int) (r : Req) (pd pl : Option Addr) (cd cl : Nat) (w : World)
    (hbw : Below w0.heap.size w0 w) (hm : RowOf w0 a ms) (hc : ms.length ≤ cap) (hc' : cap ≤ 9223372036854775807) (hr : ReqAt w0 r pd cd pl cl) (hMg : w0.heap.size ≤ g) (hMg' : w0.heap.size ≤ g') (hgg : g ≠ g')
    (hO : ORow 3 1 w g cw ws.length (ws.map (Value.int .i64))) (hO' : ORow 3 1 w g' ch hs.length (hs.map (Value.int .i64))) (hok : atmOkB ms ⟨ws, hs⟩ who r = true) (k : Nat) (hk : k < ms.length) (hke0 : wholeZ ms (burst r.addr r.many r.wrap) = (k : Int)) (hkd : r.kind = 2) :
    Calls Tryz.prog 53 #[.slice a ms.length cap, .agg #[.slice (some ⟨g, 0, none⟩) ws.length cw, .slice (some ⟨g', 0, none⟩) hs.length ch], .int .i64 who, reqV r pd cd pl cl] w fun e w' =>
      ∃ px cx, e = .returned (.tuple #[.agg #[.slice (some ⟨g, 0, none⟩) ws.length cw, .slice (some ⟨g', 0, none⟩) hs.length ch], rspV (atmDo ms ⟨ws, hs⟩ who r).2 px cx]) ∧
        ORow 3 1 w' g cw ws.length ((atmDo ms ⟨ws, hs⟩ who r).1.words.map (Value.int .i64)) ∧ ORow 3 1 w' g' ch hs.length ((atmDo ms ⟨ws, hs⟩ who r).1.holds.map (Value.int .i64)) ∧
        OwnN w.heap.size w' px cx (atmDo ms ⟨ws, hs⟩ who r).2.data ∧ (atmDo ms ⟨ws, hs⟩ who r).2.data.length ≤ cx ∧ cx ≤ 9223372036854775807 ∧ Kept (fun k => k = g ∨ k = g') w w' := by
  have HK0 := Hid.intro hke0
  have HKD := Hid.intro hkd
  clear hke0 hkd
  have HM := Hid.intro hm
  have HR := Hid.intro hr
  have hgl := hO.lt
  have hgl' := hO'.lt
  obtain ⟨id, kind, addr, many, wrap, data, lanes⟩ := r
  have HOK := Hid.intro hok
  have hws := hbw.size
  unfold reqV
  have hb4 : ∀ o1 o2 o3 o4, Below w.heap.size w ((((w.alloc o1).alloc o2).alloc o3).alloc o4) := fun o1 o2 o3 o4 => ((((Below.refl _ w).alloc (Nat.le_refl _) o1).alloc (by simp) o2).alloc (by simp <;> omega) o3).alloc (by simp <;> omega) o4
  have HI := Hid.intro (And.intro hbw (And.intro hO hO'))
  clear hm hr hO hO' hbw hok
  go_enter Tryz.func53, Tryz.ntmps53
  go_wp2_with fail
  obtain ⟨W1, hW1⟩ : ∃ W1, ((((w.alloc (.cells #[.slice (some ⟨g, 0, none⟩) ws.length cw, .slice (some ⟨g', 0, none⟩) hs.length ch] 34)).alloc (.cells #[.int .i64 id, .int .i64 kind, .int .i64 addr, .int .i64 many, .bool wrap, .slice pd data.length cd, .slice pl lanes.length cl] 66)).alloc (.cells #[.slice none 0 0, .slice none 0 0] 34)).alloc (.cells #[.int .i64 0, .int .i64 0, .slice none 0 0] 63)) = W1 := ⟨_, rfl⟩
  have h1 : L4 w0 w g cw g' ch ws.length hs.length #[.int .i64 id, .int .i64 kind, .int .i64 addr, .int .i64 many, .bool wrap, .slice pd data.length cd, .slice pl lanes.length cl] ws hs W1 := by
    have hbw1 : Below w.heap.size w W1 := by rw [← hW1]; exact hb4 _ _ _ _
    refine ⟨HI.out.1.trans (hbw1.mono hws), ?_, ?_, ?_, ?_, HI.out.2.1.gr hbw1, HI.out.2.2.gr hbw1, Kept.of_below hbw1⟩
    · rw [← hW1]; exact (Below.heap_alloc _ _ _ (by simp <;> omega)).trans ((Below.heap_alloc _ _ _ (by simp <;> omega)).trans ((Below.heap_alloc _ _ _ (by simp)).trans (nw_at _ rfl)))
    · rw [← hW1]; exact (Below.heap_alloc _ _ _ (by simp <;> omega)).trans ((Below.heap_alloc _ _ _ (by simp)).trans (nw_at _ (by simp)))
    · rw [← hW1]; exact (Below.heap_alloc _ _ _ (by simp)).trans (nw_at _ (by simp))
    · rw [← hW1]; exact nw_at _ (by simp)
  rw [hW1]
  clear hW1 hb4 HI
  refine (spec_AdrBurst addr many wrap W1).mono ?_
  rintro e W2 ⟨gq, cq, rfl, hq2, hgq, hcq1, hcq2, hb2⟩
  have h2 := h1.gr hb2
  have hs1 := h1.size
  clear h1 hb2
  go_wp2_with fail
  refine (l1Whole_any a cap ms (some ⟨gq, 0, none⟩) cq (burst addr many wrap) W2 (HM.out.below h2.bel) hc hc' hq2 hcq1 hcq2).mono ?_
  rintro e W3 ⟨rfl, hb3⟩
  have h3 := h2.gr hb3
  have hq3 := hq2.below hb3
  have hs3 := h3.size
  clear h2 hb3 hq2
  have c70 : W3.cell? ⟨w.heap.size + 1, 0, none⟩ = some (.int .i64 id) := heap_cell h3.b7 0
  have hx : Gr W3 (W3.alloc (.cells #[.int .i64 id, .int .i64 1, .slice none 0 0] 63)) := below_nw _ _
  have h4 := h3.gr hx
  have hX : (W3.alloc (.cells #[.int .i64 id, .int .i64 1, .slice none 0 0] 63)).heap[W3.heap.size]? = some (.cells #[.int .i64 id, .int .i64 1, .slice none 0 0] 63 (0, 0)) := nw_at _ rfl
  have hq4 := hq3.below hx
  obtain ⟨hmo, hwo, hho, hhi, ⟨hw0, hw2⟩, hro⟩ := atmOk_parts HOK.out
  have HWL := Hid.intro (memOk_len hwo)
  have HHL := Hid.intro hho
  clear hho
  have HQ4 := Hid.intro hq4
  have H4 := Hid.intro h4
  clear h4 hq4 hx
  have hke : wholeZ ms (burst addr many wrap) = (k : Int) := HK0.out
  rw [hke]
  obtain ⟨hid, hadr, hkinds⟩ := req_parts hro
  simp only at hid hadr hkinds
  have hk0 : (0 : Int) ≤ (k : Int) := by omega
  have hk1 : (k : Int) < (ms.length : Int) := by omega
  have hk2 : ¬ ((k : Int) < 0) := by omega
  have h4 := H4.out
  have HW := Hid.intro (fun W => writes_any ⟨id, kind, addr, many, wrap, data, lanes⟩ pd pl cd cl W)
  unfold reqV at HW
  have c70' : (W3.alloc (.cells #[.int .i64 id, .int .i64 1, .slice none 0 0] 63)).cell? ⟨w.heap.size + 1, 0, none⟩ = some (.int .i64 id) := heap_cell h4.b7 0
  have c71' : (W3.alloc (.cells #[.int .i64 id, .int .i64 1, .slice none 0 0] 63)).cell? ⟨w.heap.size + 1, 1, none⟩ = some (.int .i64 kind) := heap_cell h4.b7 1
  have c72' : (W3.alloc (.cells #[.int .i64 id, .int .i64 1, .slice none 0 0] 63)).cell? ⟨w.heap.size + 1, 2, none⟩ = some (.int .i64 addr) := heap_cell h4.b7 2
  have c73' : (W3.alloc (.cells #[.int .i64 id, .int .i64 1, .slice none 0 0] 63)).cell? ⟨w.heap.size + 1, 3, none⟩ = some (.int .i64 many) := heap_cell h4.b7 3
  have c74' : (W3.alloc (.cells #[.int .i64 id, .int .i64 1, .slice none 0 0] 63)).cell? ⟨w.heap.size + 1, 4, none⟩ = some (.bool wrap) := heap_cell h4.b7 4
  have c75' : (W3.alloc (.cells #[.int .i64 id, .int .i64 1, .slice none 0 0] 63)).cell? ⟨w.heap.size + 1, 5, none⟩ = some (.slice pd data.length cd) := heap_cell h4.b7 5
  have c76' : (W3.alloc (.cells #[.int .i64 id, .int .i64 1, .slice none 0 0] 63)).cell? ⟨w.heap.size + 1, 6, none⟩ = some (.slice pl lanes.length cl) := heap_cell h4.b7 6
  have hXs : w.heap.size + 4 ≤ W3.heap.size := h3.size
  go_wp2_with fail
  refine (HW.out _).mono ?_
  rintro e W5 ⟨rfl, hb5⟩
  have h5 := h4.gr hb5
  have hX5 := Gr.cells hb5 hX
  have hq5 := HQ4.out.below hb5
  have hr5 := h5.row
  have hs5 := h5.size
  have hXl : W3.heap.size < W5.heap.size := heap_lt hX5
  have hgqX : gq < W3.heap.size := by rcases hq3 with hx | ⟨b, off, e, hlt, _⟩
                                      · exfalso; obtain ⟨_, _, h3', _⟩ := (adrOk_iff addr many wrap).1 hadr; rw [burst_ok hadr] at hx; have := congrArg List.length hx; simp at this; omega
                                      · cases e; exact hlt
  clear hb5 h4 c70' c71' c72' c73' c74' c75' c76' c70 HW hX h3 hq3 HQ4 H4
  obtain ⟨X, hXe⟩ : ∃ X, X = W3.heap.size := ⟨_, rfl⟩
  rw [← hXe] at hXs hX5 hXl hgqX ⊢
  clear hXe
  rcases (HM.out.below h5.bel) with hx | ⟨bm, om, rfl, hbm, hcm⟩
  · subst hx; simp at hk
  obtain ⟨m0, m1, m2, m3⟩ := hcm k hk
  clear m0 m1 m2 hcm
  have hws0 : w0.heap.size ≤ w.heap.size := hws
  have hkd : kind = 2 := HKD.out
  clear HKD
  subst hkd
  rcases hkinds with ⟨e, hdl, hll⟩ | ⟨e, hdl, hll⟩ | ⟨e, hmy, hdl, hll⟩ | ⟨e, hmy, hdl, hll⟩
  · exact absurd e (by decide)
  · have hwB : writesB ⟨id, 2, addr, many, wrap, data, lanes⟩ = true := by simp [writesB]
    have hbd : (burst addr many wrap).length ≤ data.length := by have := burst_ln hadr; omega
    have hbl2 : (burst addr many wrap).length ≤ lanes.length := by have := burst_ln hadr; omega
    cases hon : ms[k].only
    rotate_left
    · have HZ : Hid ((atmDo ms ⟨ws, hs⟩ who ⟨id, 2, addr, many, wrap, data, lanes⟩) = (⟨ws, hs⟩, ⟨id, 3, []⟩)) := Hid.intro (by unfold atmDo; simp only [hke]; simp [writesB, hk2, onlyAt, hk, hon])
      rw [hwB]
      have c50 : W5.cell? ⟨w.heap.size, 0, none⟩ = some (.slice (some ⟨g, 0, none⟩) ws.length cw) := heap_cell h5.b5 0
      have c51 : W5.cell? ⟨w.heap.size, 1, none⟩ = some (.slice (some ⟨g', 0, none⟩) hs.length ch) := heap_cell h5.b5 1
      have c70 : W5.cell? ⟨w.heap.size + 1, 0, none⟩ = some (.int .i64 id) := heap_cell h5.b7 0
      have c71 : W5.cell? ⟨w.heap.size + 1, 1, none⟩ = some (.int .i64 2) := heap_cell h5.b7 1
      have c72 : W5.cell? ⟨w.heap.size + 1, 2, none⟩ = some (.int .i64 addr) := heap_cell h5.b7 2
      have c73 : W5.cell? ⟨w.heap.size + 1, 3, none⟩ = some (.int .i64 many) := heap_cell h5.b7 3
      have c74 : W5.cell? ⟨w.heap.size + 1, 4, none⟩ = some (.bool wrap) := heap_cell h5.b7 4
      have c75 : W5.cell? ⟨w.heap.size + 1, 5, none⟩ = some (.slice pd data.length cd) := heap_cell h5.b7 5
      have c76 : W5.cell? ⟨w.heap.size + 1, 6, none⟩ = some (.slice pl lanes.length cl) := heap_cell h5.b7 6
      have c80 : W5.cell? ⟨w.heap.size + 1 + 1, 0, none⟩ = some (.slice none 0 0) := heap_cell h5.b8 0
      have f80 := heap_free h5.b8 0
      have c81 : W5.cell? ⟨w.heap.size + 1 + 1, 1, none⟩ = some (.slice none 0 0) := heap_cell h5.b8 1
      have f81 := heap_free h5.b8 1
      have c90 : W5.cell? ⟨w.heap.size + 1 + 1 + 1, 0, none⟩ = some (.int .i64 0) := heap_cell h5.b9 0
      have f90 := heap_free h5.b9 0
      have c91 : W5.cell? ⟨w.heap.size + 1 + 1 + 1, 1, none⟩ = some (.int .i64 0) := heap_cell h5.b9 1
      have f91 := heap_free h5.b9 1
      have c92 : W5.cell? ⟨w.heap.size + 1 + 1 + 1, 2, none⟩ = some (.slice none 0 0) := heap_cell h5.b9 2
      have f92 := heap_free h5.b9 2
      have x0 : W5.cell? ⟨X, 0, none⟩ = some (.int .i64 id) := heap_cell hX5 0
      have x1 : W5.cell? ⟨X, 1, none⟩ = some (.int .i64 1) := heap_cell hX5 1
      have x2 : W5.cell? ⟨X, 2, none⟩ = some (.slice none 0 0) := heap_cell hX5 2
      have fx1 := heap_free hX5 1
      have fx2 := heap_free hX5 2
      go_wp2_with fail
      obtain ⟨W, hW⟩ : ∃ W, W5.setCell ⟨X, 1, none⟩ (.int .i64 3) = W := ⟨_, rfl⟩
      have h7 : L4 w0 w g cw g' ch ws.length hs.length #[.int .i64 id, .int .i64 2, .int .i64 addr, .int .i64 many, .bool wrap, .slice pd data.length cd, .slice pl lanes.length cl] ws hs W := by rw [← hW]; exact h5.setX hXs hgl hgl' hws0 1 _
      have hX7 : W.heap[X]? = some (.cells #[.int .i64 id, .int .i64 3, .slice none 0 0] 63 (0, 0)) := by rw [← hW]; exact (heap_set hX5 1 _).trans rfl
      rw [hW]
      clear x0 x1 x2 fx1 fx2 hW h5 hX5 m3 c50 c51 c70 c71 c72 c73 c74 c75 c76 c80 c81 c90 c91 c92 f80 f81 f90 f91 f92
      have hsz := h7.size
      have hl5 := heap_lt h7.b5
      have hlX := heap_lt hX7
      have HB5 := Hid.intro h7.b5
      have HXX := Hid.intro hX7
      have hn5 : ¬ (w.heap.size = w.heap.size + 1 + 1 ∨ w.heap.size = w.heap.size + 1 + 1 + 1) := by omega
      have hnX : ¬ (X = w.heap.size + 1 + 1 ∨ X = w.heap.size + 1 + 1 + 1) := by omega
      have H4 := Hid.intro h7
      clear h7
      refine wp_region_fl (by kernel_rfl) (fl_fin9 w.heap.size X (w.heap.size + 1 + 1) (w.heap.size + 1 + 1 + 1) (.slice (some ⟨g, 0, none⟩) ws.length cw) (.slice (some ⟨g', 0, none⟩) hs.length ch) (.int .i64 id) (.int .i64 3) (.slice none 0 0)) (CF (w.heap.size + 1 + 1) (w.heap.size + 1 + 1 + 1) #[.slice (some ⟨g, 0, none⟩) ws.length cw, .slice (some ⟨g', 0, none⟩) hs.length ch] #[.int .i64 id, .int .i64 3, .slice none 0 0] W) [42, 43] (by kernel_rfl) (by kernel_rfl) (by kernel_rfl) ?c0 ?looks ?done
      case looks =>
        intro hcl i o ho
        rcases i with _ | _ | _ | _ | i
        · simp at ho; subst ho
          refine fo_det (st_fin9 w.heap.size X (w.heap.size + 1 + 1) (w.heap.size + 1 + 1 + 1) (.slice (some ⟨g, 0, none⟩) ws.length cw) (.slice (some ⟨g', 0, none⟩) hs.length ch) (.int .i64 id) (.int .i64 3) (.slice none 0 0)) hcl rfl rfl rfl rfl (by kernel_rfl) (fun _ _ h => CF.step (by decide) (by decide) h) (fun done ρ W hat => ?_)
          have e5 : ρ (.tmp 5) = .pointer (some ⟨w.heap.size, 0, none⟩) := hat.out 5 (by kernel_rfl)
          have hC := hat.cls
          have hbx := (hC.kept.block _ hl5 hn5).trans HB5.out
          have c0 := (heap_cell hbx 0).trans rfl
          have c1 := (heap_cell hbx 1).trans rfl
          have hc := hat.con
          simp only [execOp, e5]
          go_simp
        · simp at ho; subst ho
          refine fo_det (st_fin9 w.heap.size X (w.heap.size + 1 + 1) (w.heap.size + 1 + 1 + 1) (.slice (some ⟨g, 0, none⟩) ws.length cw) (.slice (some ⟨g', 0, none⟩) hs.length ch) (.int .i64 id) (.int .i64 3) (.slice none 0 0)) hcl rfl rfl rfl rfl (by kernel_rfl) (fun _ _ h => CF.step (by decide) (by decide) h) (fun done ρ W hat => ?_)
          have e12 : ρ (.tmp 12) = .pointer (some ⟨X, 0, none⟩) := hat.out 12 (by kernel_rfl)
          have hC := hat.cls
          have hbx := (hC.kept.block _ hlX hnX).trans HXX.out
          have c0 := (heap_cell hbx 0).trans rfl
          have c1 := (heap_cell hbx 1).trans rfl
          have c2 := (heap_cell hbx 2).trans rfl
          have hc := hat.con
          simp only [execOp, e12]
          go_simp
        · simp at ho; subst ho
          refine fo_rel (S := fun _ _ => True) (E := []) (fun jj _ ss dd wa wb _ hbd => still_fin9 w.heap.size X (w.heap.size + 1 + 1) (w.heap.size + 1 + 1 + 1) (.slice (some ⟨g, 0, none⟩) ws.length cw) (.slice (some ⟨g', 0, none⟩) hs.length ch) (.int .i64 id) (.int .i64 3) (.slice none 0 0) jj ss dd wa wb hbd) hcl rfl rfl (fun done ρ W hat => ?_)
          have e8 : ρ (.tmp 8) = .pointer (some ⟨(w.heap.size + 1 + 1), 0, none⟩) := hat.out 8 (by kernel_rfl)
          have e42 : ρ (.tmp 42) = .agg #[(.slice (some ⟨g, 0, none⟩) ws.length cw), (.slice (some ⟨g', 0, none⟩) hs.length ch)] := fIs_at (d := 42) (v := .agg #[(.slice (some ⟨g, 0, none⟩) ws.length cw), (.slice (some ⟨g', 0, none⟩) hs.length ch)]) (hat.fact 0 (by kernel_rfl))
          have hC := hat.cls
          have hbx := hC.o8 hat.new
          have c0 := (heap_cell hbx 0).trans rfl
          have c1 := (heap_cell hbx 1).trans rfl
          have f0 := heap_free hbx 0
          have f1 := heap_free hbx 1
          refine up_skip ((W.setCell ⟨(w.heap.size + 1 + 1), 0, none⟩ (.slice (some ⟨g, 0, none⟩) ws.length cw)).setCell ⟨(w.heap.size + 1 + 1), 1, none⟩ (.slice (some ⟨g', 0, none⟩) hs.length ch)) (by simp only [execOp]; go_simp) ⟨hC.st hat.new, trivial, trivial, fun j hj hcj => ?_⟩
          exact free_spec (X := fun _ => _) (by kernel_rfl) hat.lt j hj (by simpa using hcj)
        · simp at ho; subst ho
          refine fo_rel (S := fun _ _ => True) (E := []) (fun jj _ ss dd wa wb _ hbd => still_fin9 w.heap.size X (w.heap.size + 1 + 1) (w.heap.size + 1 + 1 + 1) (.slice (some ⟨g, 0, none⟩) ws.length cw) (.slice (some ⟨g', 0, none⟩) hs.length ch) (.int .i64 id) (.int .i64 3) (.slice none 0 0) jj ss dd wa wb hbd) hcl rfl rfl (fun done ρ W hat => ?_)
          have e9 : ρ (.tmp 9) = .pointer (some ⟨(w.heap.size + 1 + 1 + 1), 0, none⟩) := hat.out 9 (by kernel_rfl)
          have e43 : ρ (.tmp 43) = .agg #[(.int .i64 id), (.int .i64 3), (.slice none 0 0)] := fIs_at (d := 43) (v := .agg #[(.int .i64 id), (.int .i64 3), (.slice none 0 0)]) (hat.fact 1 (by kernel_rfl))
          have hC := hat.cls
          have hbx := hC.o9 hat.new
          have c0 := (heap_cell hbx 0).trans rfl
          have c1 := (heap_cell hbx 1).trans rfl
          have c2 := (heap_cell hbx 2).trans rfl
          have f0 := heap_free hbx 0
          have f1 := heap_free hbx 1
          have f2 := heap_free hbx 2
          refine up_skip (((W.setCell ⟨(w.heap.size + 1 + 1 + 1), 0, none⟩ (.int .i64 id)).setCell ⟨(w.heap.size + 1 + 1 + 1), 1, none⟩ (.int .i64 3)).setCell ⟨(w.heap.size + 1 + 1 + 1), 2, none⟩ (.slice none 0 0)) (by simp only [execOp]; go_simp) ⟨hC.rs hat.new, trivial, trivial, fun j hj hcj => ?_⟩
          exact free_spec (X := fun _ => _) (by kernel_rfl) hat.lt j hj (by simpa using hcj)
        · simp at ho
      case c0 => exact ⟨Kept.drew _ _, H4.out.b8, H4.out.b9, by omega⟩
      case done =>
        intro f WW hC hf hout
        have h8 : WW.heap[w.heap.size + 1 + 1]? = some (.cells #[.slice (some ⟨g, 0, none⟩) ws.length cw, .slice (some ⟨g', 0, none⟩) hs.length ch] 34 (0, 0)) := hC.b8
        have h9 : WW.heap[w.heap.size + 1 + 1 + 1]? = some (.cells #[.int .i64 id, .int .i64 3, .slice none 0 0] 63 (0, 0)) := hC.b9
        have s0 : WW.cell? ⟨w.heap.size + 1 + 1, 0, none⟩ = some (.slice (some ⟨g, 0, none⟩) ws.length cw) := heap_cell h8 0
        have s1 : WW.cell? ⟨w.heap.size + 1 + 1, 1, none⟩ = some (.slice (some ⟨g', 0, none⟩) hs.length ch) := heap_cell h8 1
        have y0 : WW.cell? ⟨w.heap.size + 1 + 1 + 1, 0, none⟩ = some (.int .i64 id) := heap_cell h9 0
        have y1 : WW.cell? ⟨w.heap.size + 1 + 1 + 1, 1, none⟩ = some (.int .i64 3) := heap_cell h9 1
        have y2 : WW.cell? ⟨w.heap.size + 1 + 1 + 1, 2, none⟩ = some (.slice none 0 0) := heap_cell h9 2
        have HW := Hid.intro hC.kept
        clear hC hf hout h8 h9
        simp only [fill]
        go_simp
        go_wp2
        refine bodyPost_ret (v := .tuple #[.agg #[.slice (some ⟨g, 0, none⟩) ws.length cw, .slice (some ⟨g', 0, none⟩) hs.length ch], .agg #[.int .i64 id, .int .i64 3, .slice none 0 0]]) (by simp [results, Tryz.results53, go_sem, s0, s1, y0, y1, y2]) rfl ?_
        rw [HZ.out]
        have hfl := H4.out.row.lt
        have hfl' := H4.out.row'.lt
        refine ⟨none, 0, rfl, H4.out.row.of (HW.out.block g hfl (by omega)), H4.out.row'.of (HW.out.block g' hfl' (by omega)), .inl rfl, by simp, by omega, ?_⟩
        exact ⟨HW.out.os.trans H4.out.kept.os, HW.out.tape.trans H4.out.kept.tape, HW.out.output.trans H4.out.kept.output, Nat.le_trans H4.out.kept.size HW.out.size, fun i hi hne => (HW.out.block i (by have := H4.out.kept.size; omega) (by omega)).trans (H4.out.kept.block i hi hne)⟩
    · rw [hon] at m3
      have HZ : Hid ((atmDo ms ⟨ws, hs⟩ who ⟨id, 2, addr, many, wrap, data, lanes⟩) = (⟨putAll ws (burst addr many wrap) data lanes, freeAll hs (burst addr many wrap)⟩, ⟨id, 1, []⟩)) := Hid.intro (by unfold atmDo; simp only [hke]; simp [writesB, hk2, onlyAt, hk, hon])
      rw [hwB]
      have c50 : W5.cell? ⟨w.heap.size, 0, none⟩ = some (.slice (some ⟨g, 0, none⟩) ws.length cw) := heap_cell h5.b5 0
      have c51 : W5.cell? ⟨w.heap.size, 1, none⟩ = some (.slice (some ⟨g', 0, none⟩) hs.length ch) := heap_cell h5.b5 1
      have c70 : W5.cell? ⟨w.heap.size + 1, 0, none⟩ = some (.int .i64 id) := heap_cell h5.b7 0
      have c71 : W5.cell? ⟨w.heap.size + 1, 1, none⟩ = some (.int .i64 2) := heap_cell h5.b7 1
      have c72 : W5.cell? ⟨w.heap.size + 1, 2, none⟩ = some (.int .i64 addr) := heap_cell h5.b7 2
      have c73 : W5.cell? ⟨w.heap.size + 1, 3, none⟩ = some (.int .i64 many) := heap_cell h5.b7 3
      have c74 : W5.cell? ⟨w.heap.size + 1, 4, none⟩ = some (.bool wrap) := heap_cell h5.b7 4
      have c75 : W5.cell? ⟨w.heap.size + 1, 5, none⟩ = some (.slice pd data.length cd) := heap_cell h5.b7 5
      have c76 : W5.cell? ⟨w.heap.size + 1, 6, none⟩ = some (.slice pl lanes.length cl) := heap_cell h5.b7 6
      have c80 : W5.cell? ⟨w.heap.size + 1 + 1, 0, none⟩ = some (.slice none 0 0) := heap_cell h5.b8 0
      have f80 := heap_free h5.b8 0
      have c81 : W5.cell? ⟨w.heap.size + 1 + 1, 1, none⟩ = some (.slice none 0 0) := heap_cell h5.b8 1
      have f81 := heap_free h5.b8 1
      have c90 : W5.cell? ⟨w.heap.size + 1 + 1 + 1, 0, none⟩ = some (.int .i64 0) := heap_cell h5.b9 0
      have f90 := heap_free h5.b9 0
      have c91 : W5.cell? ⟨w.heap.size + 1 + 1 + 1, 1, none⟩ = some (.int .i64 0) := heap_cell h5.b9 1
      have f91 := heap_free h5.b9 1
      have c92 : W5.cell? ⟨w.heap.size + 1 + 1 + 1, 2, none⟩ = some (.slice none 0 0) := heap_cell h5.b9 2
      have f92 := heap_free h5.b9 2
      go_wp2_with fail
      have hR := HR.out.below h5.bel
      refine (spec_l2Put g cw ws (some ⟨gq, 0, none⟩) cq (burst addr many wrap) pd cd data pl cl lanes W5 h5.row hq5 (.inr fun b off e => by cases e; omega) hR.data (offB HR.out.data hMg) hR.lanes (offB HR.out.lanes hMg) (by have := burst_le addr many wrap; omega) hbd hbl2 (fun x hx => by have := burst_in x hx; have h64 : ws.length = 64 := HWL.out; omega)).mono ?_
      rintro e W6 ⟨rfl, hO6, hk6⟩
      have h6 := h5.turn (.inl rfl) hgl hgl' hws0 hMg hMg' hk6 hO6 (h5.row'.of (hk6.block g' h5.row'.lt (by omega)))
      have hX6 := (hk6.block X (by omega) (by omega)).trans hX5
      have hq6 : IntsAt W6 (some ⟨gq, 0, none⟩) (burst addr many wrap) := intsK hq5 hk6 (by omega)
      have hk6s := hk6.size
      clear hO6 hk6 hR
      clear c50 c51 c70 c71 c72 c73 c74 c75 c76 c80 c81 c90 c91 c92 f80 f81 f90 f91 f92
      have c50 : W6.cell? ⟨w.heap.size, 0, none⟩ = some (.slice (some ⟨g, 0, none⟩) ws.length cw) := heap_cell h6.b5 0
      have c51 : W6.cell? ⟨w.heap.size, 1, none⟩ = some (.slice (some ⟨g', 0, none⟩) hs.length ch) := heap_cell h6.b5 1
      have c70 : W6.cell? ⟨w.heap.size + 1, 0, none⟩ = some (.int .i64 id) := heap_cell h6.b7 0
      have c71 : W6.cell? ⟨w.heap.size + 1, 1, none⟩ = some (.int .i64 2) := heap_cell h6.b7 1
      have c72 : W6.cell? ⟨w.heap.size + 1, 2, none⟩ = some (.int .i64 addr) := heap_cell h6.b7 2
      have c73 : W6.cell? ⟨w.heap.size + 1, 3, none⟩ = some (.int .i64 many) := heap_cell h6.b7 3
      have c74 : W6.cell? ⟨w.heap.size + 1, 4, none⟩ = some (.bool wrap) := heap_cell h6.b7 4
      have c75 : W6.cell? ⟨w.heap.size + 1, 5, none⟩ = some (.slice pd data.length cd) := heap_cell h6.b7 5
      have c76 : W6.cell? ⟨w.heap.size + 1, 6, none⟩ = some (.slice pl lanes.length cl) := heap_cell h6.b7 6
      have c80 : W6.cell? ⟨w.heap.size + 1 + 1, 0, none⟩ = some (.slice none 0 0) := heap_cell h6.b8 0
      have f80 := heap_free h6.b8 0
      have c81 : W6.cell? ⟨w.heap.size + 1 + 1, 1, none⟩ = some (.slice none 0 0) := heap_cell h6.b8 1
      have f81 := heap_free h6.b8 1
      have c90 : W6.cell? ⟨w.heap.size + 1 + 1 + 1, 0, none⟩ = some (.int .i64 0) := heap_cell h6.b9 0
      have f90 := heap_free h6.b9 0
      have c91 : W6.cell? ⟨w.heap.size + 1 + 1 + 1, 1, none⟩ = some (.int .i64 0) := heap_cell h6.b9 1
      have f91 := heap_free h6.b9 1
      have c92 : W6.cell? ⟨w.heap.size + 1 + 1 + 1, 2, none⟩ = some (.slice none 0 0) := heap_cell h6.b9 2
      have f92 := heap_free h6.b9 2
      have f50 := heap_free h6.b5 0
      have f51 := heap_free h6.b5 1
      go_wp2_with fail
      obtain ⟨W7, hW7⟩ : ∃ W7, W6.setCell ⟨w.heap.size, 0, none⟩ (.slice (some ⟨g, 0, none⟩) ws.length cw) = W7 := ⟨_, rfl⟩
      have h7 : L4 w0 w g cw g' ch ws.length hs.length #[.int .i64 id, .int .i64 2, .int .i64 addr, .int .i64 many, .bool wrap, .slice pd data.length cd, .slice pl lanes.length cl] (putAll ws (burst addr many wrap) data lanes) hs W7 := by rw [← hW7]; exact h6.box0 hgl hgl' hws0
      have hX7 : W7.heap[X]? = some (.cells #[.int .i64 id, .int .i64 1, .slice none 0 0] 63 (0, 0)) := by rw [← hW7]; exact (heap_set_ne (by omega)).trans hX6
      have hq7 : IntsAt W7 (some ⟨gq, 0, none⟩) (burst addr many wrap) := by rw [← hW7]; exact intsK hq6 (Kept.setCell (D := fun k => k = w.heap.size) (p := ⟨w.heap.size, 0, none⟩) _ rfl _) (by omega)
      have hs7 : W6.heap.size ≤ W7.heap.size := by rw [← hW7]; simp
      rw [hW7]
      clear hW7 h6 hX6 hq6 f50 f51
      refine (spec_l4Free (some ⟨g, 0, none⟩) ws.length cw g' ch hs (some ⟨gq, 0, none⟩) cq (burst addr many wrap) W7 h7.row' hq7 (.inr fun b off e => by cases e; omega) (by have h6 : hs.length = 6 := HHL.out; omega) (by have := burst_le addr many wrap; omega)).mono ?_
      rintro e W8 ⟨rfl, hO8, hk8⟩
      have h8 := h7.turn (.inr rfl) hgl hgl' hws0 hMg hMg' hk8 (h7.row.of (hk8.block g h7.row.lt (by omega))) hO8
      have hX8 := (hk8.block X (by omega) (by omega)).trans hX7
      have hk8s := hk8.size
      clear hO8 hk8 h7 hX7 hq7
      clear c50 c51 c70 c71 c72 c73 c74 c75 c76 c80 c81 c90 c91 c92 f80 f81 f90 f91 f92
      have c50 : W8.cell? ⟨w.heap.size, 0, none⟩ = some (.slice (some ⟨g, 0, none⟩) ws.length cw) := heap_cell h8.b5 0
      have c51 : W8.cell? ⟨w.heap.size, 1, none⟩ = some (.slice (some ⟨g', 0, none⟩) hs.length ch) := heap_cell h8.b5 1
      have c70 : W8.cell? ⟨w.heap.size + 1, 0, none⟩ = some (.int .i64 id) := heap_cell h8.b7 0
      have c71 : W8.cell? ⟨w.heap.size + 1, 1, none⟩ = some (.int .i64 2) := heap_cell h8.b7 1
      have c72 : W8.cell? ⟨w.heap.size + 1, 2, none⟩ = some (.int .i64 addr) := heap_cell h8.b7 2
      have c73 : W8.cell? ⟨w.heap.size + 1, 3, none⟩ = some (.int .i64 many) := heap_cell h8.b7 3
      have c74 : W8.cell? ⟨w.heap.size + 1, 4, none⟩ = some (.bool wrap) := heap_cell h8.b7 4
      have c75 : W8.cell? ⟨w.heap.size + 1, 5, none⟩ = some (.slice pd data.length cd) := heap_cell h8.b7 5
      have c76 : W8.cell? ⟨w.heap.size + 1, 6, none⟩ = some (.slice pl lanes.length cl) := heap_cell h8.b7 6
      have c80 : W8.cell? ⟨w.heap.size + 1 + 1, 0, none⟩ = some (.slice none 0 0) := heap_cell h8.b8 0
      have f80 := heap_free h8.b8 0
      have c81 : W8.cell? ⟨w.heap.size + 1 + 1, 1, none⟩ = some (.slice none 0 0) := heap_cell h8.b8 1
      have f81 := heap_free h8.b8 1
      have c90 : W8.cell? ⟨w.heap.size + 1 + 1 + 1, 0, none⟩ = some (.int .i64 0) := heap_cell h8.b9 0
      have f90 := heap_free h8.b9 0
      have c91 : W8.cell? ⟨w.heap.size + 1 + 1 + 1, 1, none⟩ = some (.int .i64 0) := heap_cell h8.b9 1
      have f91 := heap_free h8.b9 1
      have c92 : W8.cell? ⟨w.heap.size + 1 + 1 + 1, 2, none⟩ = some (.slice none 0 0) := heap_cell h8.b9 2
      have f92 := heap_free h8.b9 2
      have f50 := heap_free h8.b5 0
      have f51 := heap_free h8.b5 1
      go_wp2_with fail
      obtain ⟨W, hW⟩ : ∃ W, (W8.setCell ⟨w.heap.size, 0, none⟩ (.slice (some ⟨g, 0, none⟩) ws.length cw)).setCell ⟨w.heap.size, 1, none⟩ (.slice (some ⟨g', 0, none⟩) hs.length ch) = W := ⟨_, rfl⟩
      have h9 : L4 w0 w g cw g' ch ws.length hs.length #[.int .i64 id, .int .i64 2, .int .i64 addr, .int .i64 many, .bool wrap, .slice pd data.length cd, .slice pl lanes.length cl] (putAll ws (burst addr many wrap) data lanes) (freeAll hs (burst addr many wrap)) W := by rw [← hW]; exact (h8.box0 hgl hgl' hws0).box1 hgl hgl' hws0
      have hX9 : W.heap[X]? = some (.cells #[.int .i64 id, .int .i64 1, .slice none 0 0] 63 (0, 0)) := by rw [← hW]; exact (heap_set_ne (by omega)).trans ((heap_set_ne (by omega)).trans hX8)
      rw [hW]
      clear hW h8 hX8 f50 f51 c50 c51 c70 c71 c72 c73 c74 c75 c76 c80 c81 c90 c91 c92 f80 f81 f90 f91 f92
      have hsz := h9.size
      have hl5 := heap_lt h9.b5
      have hlX := heap_lt hX9
      have HB5 := Hid.intro h9.b5
      have HXX := Hid.intro hX9
      have hn5 : ¬ (w.heap.size = w.heap.size + 1 + 1 ∨ w.heap.size = w.heap.size + 1 + 1 + 1) := by omega
      have hnX : ¬ (X = w.heap.size + 1 + 1 ∨ X = w.heap.size + 1 + 1 + 1) := by omega
      have H4 := Hid.intro h9
      clear h9
      refine wp_region_fl (by kernel_rfl) (fl_fin26 w.heap.size X (w.heap.size + 1 + 1) (w.heap.size + 1 + 1 + 1) (.slice (some ⟨g, 0, none⟩) ws.length cw) (.slice (some ⟨g', 0, none⟩) hs.length ch) (.int .i64 id) (.int .i64 1) (.slice none 0 0)) (CF (w.heap.size + 1 + 1) (w.heap.size + 1 + 1 + 1) #[.slice (some ⟨g, 0, none⟩) ws.length cw, .slice (some ⟨g', 0, none⟩) hs.length ch] #[.int .i64 id, .int .i64 1, .slice none 0 0] W) [109, 110] (by kernel_rfl) (by kernel_rfl) (by kernel_rfl) ?c0 ?looks ?done
      case looks =>
        intro hcl i o ho
        rcases i with _ | _ | _ | _ | i
        · simp at ho; subst ho
          refine fo_det (st_fin26 w.heap.size X (w.heap.size + 1 + 1) (w.heap.size + 1 + 1 + 1) (.slice (some ⟨g, 0, none⟩) ws.length cw) (.slice (some ⟨g', 0, none⟩) hs.length ch) (.int .i64 id) (.int .i64 1) (.slice none 0 0)) hcl rfl rfl rfl rfl (by kernel_rfl) (fun _ _ h => CF.step (by decide) (by decide) h) (fun done ρ W hat => ?_)
          have e5 : ρ (.tmp 5) = .pointer (some ⟨w.heap.size, 0, none⟩) := hat.out 5 (by kernel_rfl)
          have hC := hat.cls
          have hbx := (hC.kept.block _ hl5 hn5).trans HB5.out
          have c0 := (heap_cell hbx 0).trans rfl
          have c1 := (heap_cell hbx 1).trans rfl
          have hc := hat.con
          simp only [execOp, e5]
          go_simp
        · simp at ho; subst ho
          refine fo_det (st_fin26 w.heap.size X (w.heap.size + 1 + 1) (w.heap.size + 1 + 1 + 1) (.slice (some ⟨g, 0, none⟩) ws.length cw) (.slice (some ⟨g', 0, none⟩) hs.length ch) (.int .i64 id) (.int .i64 1) (.slice none 0 0)) hcl rfl rfl rfl rfl (by kernel_rfl) (fun _ _ h => CF.step (by decide) (by decide) h) (fun done ρ W hat => ?_)
          have e12 : ρ (.tmp 12) = .pointer (some ⟨X, 0, none⟩) := hat.out 12 (by kernel_rfl)
          have hC := hat.cls
          have hbx := (hC.kept.block _ hlX hnX).trans HXX.out
          have c0 := (heap_cell hbx 0).trans rfl
          have c1 := (heap_cell hbx 1).trans rfl
          have c2 := (heap_cell hbx 2).trans rfl
          have hc := hat.con
          simp only [execOp, e12]
          go_simp
        · simp at ho; subst ho
          refine fo_rel (S := fun _ _ => True) (E := []) (fun jj _ ss dd wa wb _ hbd => still_fin26 w.heap.size X (w.heap.size + 1 + 1) (w.heap.size + 1 + 1 + 1) (.slice (some ⟨g, 0, none⟩) ws.length cw) (.slice (some ⟨g', 0, none⟩) hs.length ch) (.int .i64 id) (.int .i64 1) (.slice none 0 0) jj ss dd wa wb hbd) hcl rfl rfl (fun done ρ W hat => ?_)
          have e8 : ρ (.tmp 8) = .pointer (some ⟨(w.heap.size + 1 + 1), 0, none⟩) := hat.out 8 (by kernel_rfl)
          have e109 : ρ (.tmp 109) = .agg #[(.slice (some ⟨g, 0, none⟩) ws.length cw), (.slice (some ⟨g', 0, none⟩) hs.length ch)] := fIs_at (d := 109) (v := .agg #[(.slice (some ⟨g, 0, none⟩) ws.length cw), (.slice (some ⟨g', 0, none⟩) hs.length ch)]) (hat.fact 0 (by kernel_rfl))
          have hC := hat.cls
          have hbx := hC.o8 hat.new
          have c0 := (heap_cell hbx 0).trans rfl
          have c1 := (heap_cell hbx 1).trans rfl
          have f0 := heap_free hbx 0
          have f1 := heap_free hbx 1
          refine up_skip ((W.setCell ⟨(w.heap.size + 1 + 1), 0, none⟩ (.slice (some ⟨g, 0, none⟩) ws.length cw)).setCell ⟨(w.heap.size + 1 + 1), 1, none⟩ (.slice (some ⟨g', 0, none⟩) hs.length ch)) (by simp only [execOp]; go_simp) ⟨hC.st hat.new, trivial, trivial, fun j hj hcj => ?_⟩
          exact free_spec (X := fun _ => _) (by kernel_rfl) hat.lt j hj (by simpa using hcj)
        · simp at ho; subst ho
          refine fo_rel (S := fun _ _ => True) (E := []) (fun jj _ ss dd wa wb _ hbd => still_fin26 w.heap.size X (w.heap.size + 1 + 1) (w.heap.size + 1 + 1 + 1) (.slice (some ⟨g, 0, none⟩) ws.length cw) (.slice (some ⟨g', 0, none⟩) hs.length ch) (.int .i64 id) (.int .i64 1) (.slice none 0 0) jj ss dd wa wb hbd) hcl rfl rfl (fun done ρ W hat => ?_)
          have e9 : ρ (.tmp 9) = .pointer (some ⟨(w.heap.size + 1 + 1 + 1), 0, none⟩) := hat.out 9 (by kernel_rfl)
          have e110 : ρ (.tmp 110) = .agg #[(.int .i64 id), (.int .i64 1), (.slice none 0 0)] := fIs_at (d := 110) (v := .agg #[(.int .i64 id), (.int .i64 1), (.slice none 0 0)]) (hat.fact 1 (by kernel_rfl))
          have hC := hat.cls
          have hbx := hC.o9 hat.new
          have c0 := (heap_cell hbx 0).trans rfl
          have c1 := (heap_cell hbx 1).trans rfl
          have c2 := (heap_cell hbx 2).trans rfl
          have f0 := heap_free hbx 0
          have f1 := heap_free hbx 1
          have f2 := heap_free hbx 2
          refine up_skip (((W.setCell ⟨(w.heap.size + 1 + 1 + 1), 0, none⟩ (.int .i64 id)).setCell ⟨(w.heap.size + 1 + 1 + 1), 1, none⟩ (.int .i64 1)).setCell ⟨(w.heap.size + 1 + 1 + 1), 2, none⟩ (.slice none 0 0)) (by simp only [execOp]; go_simp) ⟨hC.rs hat.new, trivial, trivial, fun j hj hcj => ?_⟩
          exact free_spec (X := fun _ => _) (by kernel_rfl) hat.lt j hj (by simpa using hcj)
        · simp at ho
      case c0 => exact ⟨Kept.drew _ _, H4.out.b8, H4.out.b9, by omega⟩
      case done =>
        intro f WW hC hf hout
        have h8 : WW.heap[w.heap.size + 1 + 1]? = some (.cells #[.slice (some ⟨g, 0, none⟩) ws.length cw, .slice (some ⟨g', 0, none⟩) hs.length ch] 34 (0, 0)) := hC.b8
        have h9 : WW.heap[w.heap.size + 1 + 1 + 1]? = some (.cells #[.int .i64 id, .int .i64 1, .slice none 0 0] 63 (0, 0)) := hC.b9
        have s0 : WW.cell? ⟨w.heap.size + 1 + 1, 0, none⟩ = some (.slice (some ⟨g, 0, none⟩) ws.length cw) := heap_cell h8 0
        have s1 : WW.cell? ⟨w.heap.size + 1 + 1, 1, none⟩ = some (.slice (some ⟨g', 0, none⟩) hs.length ch) := heap_cell h8 1
        have y0 : WW.cell? ⟨w.heap.size + 1 + 1 + 1, 0, none⟩ = some (.int .i64 id) := heap_cell h9 0
        have y1 : WW.cell? ⟨w.heap.size + 1 + 1 + 1, 1, none⟩ = some (.int .i64 1) := heap_cell h9 1
        have y2 : WW.cell? ⟨w.heap.size + 1 + 1 + 1, 2, none⟩ = some (.slice none 0 0) := heap_cell h9 2
        have HW := Hid.intro hC.kept
        clear hC hf hout h8 h9
        simp only [fill]
        go_simp
        go_wp2
        refine bodyPost_ret (v := .tuple #[.agg #[.slice (some ⟨g, 0, none⟩) ws.length cw, .slice (some ⟨g', 0, none⟩) hs.length ch], .agg #[.int .i64 id, .int .i64 1, .slice none 0 0]]) (by simp [results, Tryz.results53, go_sem, s0, s1, y0, y1, y2]) rfl ?_
        rw [HZ.out]
        have hfl := H4.out.row.lt
        have hfl' := H4.out.row'.lt
        refine ⟨none, 0, rfl, H4.out.row.of (HW.out.block g hfl (by omega)), H4.out.row'.of (HW.out.block g' hfl' (by omega)), .inl rfl, by simp, by omega, ?_⟩
        exact ⟨HW.out.os.trans H4.out.kept.os, HW.out.tape.trans H4.out.kept.tape, HW.out.output.trans H4.out.kept.output, Nat.le_trans H4.out.kept.size HW.out.size, fun i hi hne => (HW.out.block i (by have := H4.out.kept.size; omega) (by omega)).trans (H4.out.kept.block i hi hne)⟩
  · exact absurd e (by decide)
  · exact absurd e (by decide)

end Go.Proofs.YtpamjkkghghggaaGreat

/-
  l4Do of the model, Kind 3.
-/
namespace Go.Proofs.YtpamjkkghghggaaGreat
open Go.RowKit
set_option linter.unusedSimpArgs false
set_option linter.unusedVariables false

set_option maxRecDepth 100000 in
set_option maxHeartbeats 4000000 in
theorem l4Do_3 (w0 : World) (a : Option Addr) (cap : Nat) (ms : List Rng) (g cw g' ch : Nat) (ws hs : List Int) (who : Int) (r : Req) (pd pl : Option Addr) (cd cl : Nat) (w : World)
    (hbw : Below w0.heap.size w0 w) (hm : RowOf w0 a ms) (hc : ms.length ≤ cap) (hc' : cap ≤ 9223372036854775807) (hr : ReqAt w0 r pd cd pl cl) (hMg : w0.heap.size ≤ g) (hMg' : w0.heap.size ≤ g') (hgg : g ≠ g')
    (hO : ORow 3 1 w g cw ws.length (ws.map (Value.int .i64))) (hO' : ORow 3 1 w g' ch hs.length (hs.map (Value.int .i64))) (hok : atmOkB ms ⟨ws, hs⟩ who r = true) (k : Nat) (hk : k < ms.length) (hke0 : wholeZ ms (burst r.addr r.many r.wrap) = (k : Int)) (hkd : r.kind = 3) :
    Calls Tryz.prog 53 #[.slice a ms.length cap, .agg #[.slice (some ⟨g, 0, none⟩) ws.length cw, .slice (some ⟨g', 0, none⟩) hs.length ch], .int .i64 who, reqV r pd cd pl cl] w fun e w' =>
      ∃ px cx, e = .returned (.tuple #[.agg #[.slice (some ⟨g, 0, none⟩) ws.length cw, .slice (some ⟨g', 0, none⟩) hs.length ch], rspV (atmDo ms ⟨ws, hs⟩ who r).2 px cx]) ∧
        ORow 3 1 w' g cw ws.length ((atmDo ms ⟨ws, hs⟩ who r).1.words.map (Value.int .i64)) ∧ ORow 3 1 w' g' ch hs.length ((atmDo ms ⟨ws, hs⟩ who r).1.holds.map (Value.int .i64)) ∧
        OwnN w.heap.size w' px cx (atmDo ms ⟨ws, hs⟩ who r).2.data ∧ (atmDo ms ⟨ws, hs⟩ who r).2.data.length ≤ cx ∧ cx ≤ 9223372036854775807 ∧ Kept (fun k => k = g ∨ k = g') w w' := by
  have HK0 := Hid.intro hke0
  have HKD := Hid.intro hkd
  clear hke0 hkd
  have HM := Hid.intro hm
  have HR := Hid.intro hr
  have hgl := hO.lt
  have hgl' := hO'.lt
  obtain ⟨id, kind, addr, many, wrap, data, lanes⟩ := r
  have HOK := Hid.intro hok
  have hws := hbw.size
  unfold reqV
  have hb4 : ∀ o1 o2 o3 o4, Below w.heap.size w ((((w.alloc o1).alloc o2).alloc o3).alloc o4) := fun o1 o2 o3 o4 => ((((Below.refl _ w).alloc (Nat.le_refl _) o1).alloc (by simp) o2).alloc (by simp <;> omega) o3).alloc (by simp <;> omega) o4
  have HI := Hid.intro (And.intro hbw (And.intro hO hO'))
  clear hm hr hO hO' hbw hok
  go_enter Tryz.func53, Tryz.ntmps53
  go_wp2_with fail
  obtain ⟨W1, hW1⟩ : ∃ W1, ((((w.alloc (.cells #[.slice (some ⟨g, 0, none⟩) ws.length cw, .slice (some ⟨g', 0, none⟩) hs.length ch] 34)).alloc (.cells #[.int .i64 id, .int .i64 kind, .int .i64 addr, .int .i64 many, .bool wrap, .slice pd data.length cd, .slice pl lanes.length cl] 66)).alloc (.cells #[.slice none 0 0, .slice none 0 0] 34)).alloc (.cells #[.int .i64 0, .int .i64 0, .slice none 0 0] 63)) = W1 := ⟨_, rfl⟩
  have h1 : L4 w0 w g cw g' ch ws.length hs.length #[.int .i64 id, .int .i64 kind, .int .i64 addr, .int .i64 many, .bool wrap, .slice pd data.length cd, .slice pl lanes.length cl] ws hs W1 := by
    have hbw1 : Below w.heap.size w W1 := by rw [← hW1]; exact hb4 _ _ _ _
    refine ⟨HI.out.1.trans (hbw1.mono hws), ?_, ?_, ?_, ?_, HI.out.2.1.gr hbw1, HI.out.2.2.gr hbw1, Kept.of_below hbw1⟩
    · rw [← hW1]; exact (Below.heap_alloc _ _ _ (by simp <;> omega)).trans ((Below.heap_alloc _ _ _ (by simp <;> omega)).trans ((Below.heap_alloc _ _ _ (by simp)).trans (nw_at _ rfl)))
    · rw [← hW1]; exact (Below.heap_alloc _ _ _ (by simp <;> omega)).trans ((Below.heap_alloc _ _ _ (by simp)).trans (nw_at _ (by simp)))
    · rw [← hW1]; exact (Below.heap_alloc _ _ _ (by simp)).trans (nw_at _ (by simp))
    · rw [← hW1]; exact nw_at _ (by simp)
  rw [hW1]
  clear hW1 hb4 HI
  refine (spec_AdrBurst addr many wrap W1).mono ?_
  rintro e W2 ⟨gq, cq, rfl, hq2, hgq, hcq1, hcq2, hb2⟩
  have h2 := h1.gr hb2
  have hs1 := h1.size
  clear h1 hb2
  go_wp2_with fail
  refine (l1Whole_any a cap ms (some ⟨gq, 0, none⟩) cq (burst addr many wrap) W2 (HM.out.below h2.bel) hc hc' hq2 hcq1 hcq2).mono ?_
  rintro e W3 ⟨rfl, hb3⟩
  have h3 := h2.gr hb3
  have hq3 := hq2.below hb3
  have hs3 := h3.size
  clear h2 hb3 hq2
  have c70 : W3.cell? ⟨w.heap.size + 1, 0, none⟩ = some (.int .i64 id) := heap_cell h3.b7 0
  have hx : Gr W3 (W3.alloc (.cells #[.int .i64 id, .int .i64 1, .slice none 0 0] 63)) := below_nw _ _
  have h4 := h3.gr hx
  have hX : (W3.alloc (.cells #[.int .i64 id, .int .i64 1, .slice none 0 0] 63)).heap[W3.heap.size]? = some (.cells #[.int .i64 id, .int .i64 1, .slice none 0 0] 63 (0, 0)) := nw_at _ rfl
  have hq4 := hq3.below hx
  obtain ⟨hmo, hwo, hho, hhi, ⟨hw0, hw2⟩, hro⟩ := atmOk_parts HOK.out
  have HWL := Hid.intro (memOk_len hwo)
  have HHL := Hid.intro hho
  clear hho
  have HQ4 := Hid.intro hq4
  have H4 := Hid.intro h4
  clear h4 hq4 hx
  have hke : wholeZ ms (burst addr many wrap) = (k : Int) := HK0.out
  rw [hke]
  obtain ⟨hid, hadr, hkinds⟩ := req_parts hro
  simp only at hid hadr hkinds
  have hk0 : (0 : Int) ≤ (k : Int) := by omega
  have hk1 : (k : Int) < (ms.length : Int) := by omega
  have hk2 : ¬ ((k : Int) < 0) := by omega
  have h4 := H4.out
  have HW := Hid.intro (fun W => writes_any ⟨id, kind, addr, many, wrap, data, lanes⟩ pd pl cd cl W)
  unfold reqV at HW
  have c70' : (W3.alloc (.cells #[.int .i64 id, .int .i64 1, .slice none 0 0] 63)).cell? ⟨w.heap.size + 1, 0, none⟩ = some (.int .i64 id) := heap_cell h4.b7 0
  have c71' : (W3.alloc (.cells #[.int .i64 id, .int .i64 1, .slice none 0 0] 63)).cell? ⟨w.heap.size + 1, 1, none⟩ = some (.int .i64 kind) := heap_cell h4.b7 1
  have c72' : (W3.alloc (.cells #[.int .i64 id, .int .i64 1, .slice none 0 0] 63)).cell? ⟨w.heap.size + 1, 2, none⟩ = some (.int .i64 addr) := heap_cell h4.b7 2
  have c73' : (W3.alloc (.cells #[.int .i64 id, .int .i64 1, .slice none 0 0] 63)).cell? ⟨w.heap.size + 1, 3, none⟩ = some (.int .i64 many) := heap_cell h4.b7 3
  have c74' : (W3.alloc (.cells #[.int .i64 id, .int .i64 1, .slice none 0 0] 63)).cell? ⟨w.heap.size + 1, 4, none⟩ = some (.bool wrap) := heap_cell h4.b7 4
  have c75' : (W3.alloc (.cells #[.int .i64 id, .int .i64 1, .slice none 0 0] 63)).cell? ⟨w.heap.size + 1, 5, none⟩ = some (.slice pd data.length cd) := heap_cell h4.b7 5
  have c76' : (W3.alloc (.cells #[.int .i64 id, .int .i64 1, .slice none 0 0] 63)).cell? ⟨w.heap.size + 1, 6, none⟩ = some (.slice pl lanes.length cl) := heap_cell h4.b7 6
  have hXs : w.heap.size + 4 ≤ W3.heap.size := h3.size
  go_wp2_with fail
  refine (HW.out _).mono ?_
  rintro e W5 ⟨rfl, hb5⟩
  have h5 := h4.gr hb5
  have hX5 := Gr.cells hb5 hX
  have hq5 := HQ4.out.below hb5
  have hr5 := h5.row
  have hs5 := h5.size
  have hXl : W3.heap.size < W5.heap.size := heap_lt hX5
  have hgqX : gq < W3.heap.size := by rcases hq3 with hx | ⟨b, off, e, hlt, _⟩
                                      · exfalso; obtain ⟨_, _, h3', _⟩ := (adrOk_iff addr many wrap).1 hadr; rw [burst_ok hadr] at hx; have := congrArg List.length hx; simp at this; omega
                                      · cases e; exact hlt
  clear hb5 h4 c70' c71' c72' c73' c74' c75' c76' c70 HW hX h3 hq3 HQ4 H4
  obtain ⟨X, hXe⟩ : ∃ X, X = W3.heap.size := ⟨_, rfl⟩
  rw [← hXe] at hXs hX5 hXl hgqX ⊢
  clear hXe
  rcases (HM.out.below h5.bel) with hx | ⟨bm, om, rfl, hbm, hcm⟩
  · subst hx; simp at hk
  obtain ⟨m0, m1, m2, m3⟩ := hcm k hk
  clear m0 m1 m2 hcm
  have hws0 : w0.heap.size ≤ w.heap.size := hws
  have hkd : kind = 3 := HKD.out
  clear HKD
  subst hkd
  rcases hkinds with ⟨e, hdl, hll⟩ | ⟨e, hdl, hll⟩ | ⟨e, hmy, hdl, hll⟩ | ⟨e, hmy, hdl, hll⟩
  · exact absurd e (by decide)
  · exact absurd e (by decide)
  · have hwB : writesB ⟨id, 3, addr, many, wrap, data, lanes⟩ = false := by simp [writesB]
    have HMY := Hid.intro hmy
    clear hmy
    have hat0 : (0 : Int) ≤ who * 2 + id := by omega
    obtain ⟨n, hn⟩ := Int.eq_ofNat_of_zero_le hat0
    have hnl : n < hs.length := by have h6 : hs.length = 6 := HHL.out; omega
    have hn0 : (0 : Int) ≤ (n : Int) := by omega
    have hn1 : (n : Int) < (hs.length : Int) := by omega
    have HZ : Hid ((atmDo ms ⟨ws, hs⟩ who ⟨id, 3, addr, many, wrap, data, lanes⟩) = (⟨ws, hs.set n addr⟩, ⟨id, 2, getAll ws (burst addr many wrap)⟩)) := Hid.intro (by unfold atmDo; simp only [hke]; simp [writesB, hk2, atR, hn])
    rw [hwB]
    have c50 : W5.cell? ⟨w.heap.size, 0, none⟩ = some (.slice (some ⟨g, 0, none⟩) ws.length cw) := heap_cell h5.b5 0
    have c51 : W5.cell? ⟨w.heap.size, 1, none⟩ = some (.slice (some ⟨g', 0, none⟩) hs.length ch) := heap_cell h5.b5 1
    have c70 : W5.cell? ⟨w.heap.size + 1, 0, none⟩ = some (.int .i64 id) := heap_cell h5.b7 0
    have c71 : W5.cell? ⟨w.heap.size + 1, 1, none⟩ = some (.int .i64 3) := heap_cell h5.b7 1
    have c72 : W5.cell? ⟨w.heap.size + 1, 2, none⟩ = some (.int .i64 addr) := heap_cell h5.b7 2
    have c73 : W5.cell? ⟨w.heap.size + 1, 3, none⟩ = some (.int .i64 many) := heap_cell h5.b7 3
    have c74 : W5.cell? ⟨w.heap.size + 1, 4, none⟩ = some (.bool wrap) := heap_cell h5.b7 4
    have c75 : W5.cell? ⟨w.heap.size + 1, 5, none⟩ = some (.slice pd data.length cd) := heap_cell h5.b7 5
    have c76 : W5.cell? ⟨w.heap.size + 1, 6, none⟩ = some (.slice pl lanes.length cl) := heap_cell h5.b7 6
    have c80 : W5.cell? ⟨w.heap.size + 1 + 1, 0, none⟩ = some (.slice none 0 0) := heap_cell h5.b8 0
    have f80 := heap_free h5.b8 0
    have c81 : W5.cell? ⟨w.heap.size + 1 + 1, 1, none⟩ = some (.slice none 0 0) := heap_cell h5.b8 1
    have f81 := heap_free h5.b8 1
    have c90 : W5.cell? ⟨w.heap.size + 1 + 1 + 1, 0, none⟩ = some (.int .i64 0) := heap_cell h5.b9 0
    have f90 := heap_free h5.b9 0
    have c91 : W5.cell? ⟨w.heap.size + 1 + 1 + 1, 1, none⟩ = some (.int .i64 0) := heap_cell h5.b9 1
    have f91 := heap_free h5.b9 1
    have c92 : W5.cell? ⟨w.heap.size + 1 + 1 + 1, 2, none⟩ = some (.slice none 0 0) := heap_cell h5.b9 2
    have f92 := heap_free h5.b9 2
    go_wp2_with fail
    refine (spec_l2Get (some ⟨g, 0, none⟩) cw ws (some ⟨gq, 0, none⟩) cq (burst addr many wrap) W5 (h5.row.ints) hq5 (by have := burst_le addr many wrap; omega) (fun x hx => by have := burst_in x hx; have h64 : ws.length = 64 := HWL.out; omega)).mono ?_
    rintro e W6 ⟨gx, cx, rfl, hOx, hcx1, hcx2, hgx, hb6⟩
    have h6 := h5.gr hb6
    have hX6 := Gr.cells hb6 hX5
    have hgxl := hOx.lt
    have hX6l := heap_lt hX6
    clear c50 c51 c70 c71 c72 c73 c74 c75 c76 c80 c81 c90 c91 c92 f80 f81 f90 f91 f92
    have x0 : W6.cell? ⟨X, 0, none⟩ = some (.int .i64 id) := heap_cell hX6 0
    have x1 : W6.cell? ⟨X, 1, none⟩ = some (.int .i64 1) := heap_cell hX6 1
    have x2 : W6.cell? ⟨X, 2, none⟩ = some (.slice none 0 0) := heap_cell hX6 2
    have fx1 := heap_free hX6 1
    have fx2 := heap_free hX6 2
    have c50 : W6.cell? ⟨w.heap.size, 0, none⟩ = some (.slice (some ⟨g, 0, none⟩) ws.length cw) := heap_cell h6.b5 0
    have c51 : W6.cell? ⟨w.heap.size, 1, none⟩ = some (.slice (some ⟨g', 0, none⟩) hs.length ch) := heap_cell h6.b5 1
    have c70 : W6.cell? ⟨w.heap.size + 1, 0, none⟩ = some (.int .i64 id) := heap_cell h6.b7 0
    have c71 : W6.cell? ⟨w.heap.size + 1, 1, none⟩ = some (.int .i64 3) := heap_cell h6.b7 1
    have c72 : W6.cell? ⟨w.heap.size + 1, 2, none⟩ = some (.int .i64 addr) := heap_cell h6.b7 2
    have c73 : W6.cell? ⟨w.heap.size + 1, 3, none⟩ = some (.int .i64 many) := heap_cell h6.b7 3
    have c74 : W6.cell? ⟨w.heap.size + 1, 4, none⟩ = some (.bool wrap) := heap_cell h6.b7 4
    have c75 : W6.cell? ⟨w.heap.size + 1, 5, none⟩ = some (.slice pd data.length cd) := heap_cell h6.b7 5
    have c76 : W6.cell? ⟨w.heap.size + 1, 6, none⟩ = some (.slice pl lanes.length cl) := heap_cell h6.b7 6
    have c80 : W6.cell? ⟨w.heap.size + 1 + 1, 0, none⟩ = some (.slice none 0 0) := heap_cell h6.b8 0
    have f80 := heap_free h6.b8 0
    have c81 : W6.cell? ⟨w.heap.size + 1 + 1, 1, none⟩ = some (.slice none 0 0) := heap_cell h6.b8 1
    have f81 := heap_free h6.b8 1
    have c90 : W6.cell? ⟨w.heap.size + 1 + 1 + 1, 0, none⟩ = some (.int .i64 0) := heap_cell h6.b9 0
    have f90 := heap_free h6.b9 0
    have c91 : W6.cell? ⟨w.heap.size + 1 + 1 + 1, 1, none⟩ = some (.int .i64 0) := heap_cell h6.b9 1
    have f91 := heap_free h6.b9 1
    have c92 : W6.cell? ⟨w.heap.size + 1 + 1 + 1, 2, none⟩ = some (.slice none 0 0) := heap_cell h6.b9 2
    have f92 := heap_free h6.b9 2
    have gh : W6.cell? ⟨g', n, none⟩ = some (.int .i64 hs[n]) := h6.row'.get n _ (by simp [hnl])
    have fgh := h6.row'.free n
    have hgX : g' ≠ X := by omega
    have hgX2 : X ≠ g' := by omega
    have hwX : w.heap.size ≠ X := by omega
    have hwX1 : w.heap.size + 1 ≠ X := by omega
    go_wp2_with fail
    obtain ⟨W, hW⟩ : ∃ W, ((W6.setCell ⟨X, 2, none⟩ (.slice (some ⟨gx, 0, none⟩) (getAll ws (burst addr many wrap)).length cx)).setCell ⟨X, 1, none⟩ (.int .i64 2)).setCell ⟨g', n, none⟩ (.int .i64 addr) = W := ⟨_, rfl⟩
    have h7 : L4 w0 w g cw g' ch ws.length hs.length #[.int .i64 id, .int .i64 3, .int .i64 addr, .int .i64 many, .bool wrap, .slice pd data.length cd, .slice pl lanes.length cl] ws (hs.set n addr) W := by
      rw [← hW]
      have h6x := (h6.setX hXs hgl hgl' hws0 2 (.slice (some ⟨gx, 0, none⟩) (getAll ws (burst addr many wrap)).length cx)).setX hXs hgl hgl' hws0 1 (.int .i64 2)
      exact h6x.turn (.inr rfl) hgl hgl' hws0 hMg hMg' (Kept.setCell (D := fun k => k = g') (p := ⟨g', n, none⟩) _ rfl _) (h6x.row.of (heap_set_ne (by omega))) (h6x.row'.set n hnl addr)
    have hX7 : W.heap[X]? = some (.cells #[.int .i64 id, .int .i64 2, (.slice (some ⟨gx, 0, none⟩) (getAll ws (burst addr many wrap)).length cx)] 63 (0, 0)) := by rw [← hW]; exact (heap_set_ne hgX2).trans ((heap_set (heap_set hX6 2 _) 1 _).trans rfl)
    have hO7 : ORow 3 1 W gx cx (getAll ws (burst addr many wrap)).length ((getAll ws (burst addr many wrap)).map (Value.int .i64)) := by rw [← hW]; exact hOx.of ((heap_set_ne (by omega)).trans ((heap_set_ne (by omega)).trans (heap_set_ne (by omega))))
    rw [hW]
    have hgxX : w.heap.size + 4 ≤ gx := by omega
    have hO7l := hO7.lt
    clear x0 x1 x2 fx1 fx2 hW h6 hX6 hOx hb6 h5 hX5 m3 gh fgh c50 c51 c70 c71 c72 c73 c74 c75 c76 c80 c81 c90 c91 c92 f80 f81 f90 f91 f92
    have hsz := h7.size
    have hl5 := heap_lt h7.b5
    have hlX := heap_lt hX7
    have HB5 := Hid.intro h7.b5
    have HXX := Hid.intro hX7
    have hn5 : ¬ (w.heap.size = w.heap.size + 1 + 1 ∨ w.heap.size = w.heap.size + 1 + 1 + 1) := by omega
    have hnX : ¬ (X = w.heap.size + 1 + 1 ∨ X = w.heap.size + 1 + 1 + 1) := by omega
    have H4 := Hid.intro h7
    clear h7
    refine wp_region_fl (by kernel_rfl) (fl_fin26 w.heap.size X (w.heap.size + 1 + 1) (w.heap.size + 1 + 1 + 1) (.slice (some ⟨g, 0, none⟩) ws.length cw) (.slice (some ⟨g', 0, none⟩) hs.length ch) (.int .i64 id) (.int .i64 2) (.slice (some ⟨gx, 0, none⟩) (getAll ws (burst addr many wrap)).length cx)) (CF (w.heap.size + 1 + 1) (w.heap.size + 1 + 1 + 1) #[.slice (some ⟨g, 0, none⟩) ws.length cw, .slice (some ⟨g', 0, none⟩) hs.length ch] #[.int .i64 id, .int .i64 2, .slice (some ⟨gx, 0, none⟩) (getAll ws (burst addr many wrap)).length cx] W) [109, 110] (by kernel_rfl) (by kernel_rfl) (by kernel_rfl) ?c0 ?looks ?done
    case looks =>
      intro hcl i o ho
      rcases i with _ | _ | _ | _ | i
      · simp at ho; subst ho
        refine fo_det (st_fin26 w.heap.size X (w.heap.size + 1 + 1) (w.heap.size + 1 + 1 + 1) (.slice (some ⟨g, 0, none⟩) ws.length cw) (.slice (some ⟨g', 0, none⟩) hs.length ch) (.int .i64 id) (.int .i64 2) (.slice (some ⟨gx, 0, none⟩) (getAll ws (burst addr many wrap)).length cx)) hcl rfl rfl rfl rfl (by kernel_rfl) (fun _ _ h => CF.step (by decide) (by decide) h) (fun done ρ W hat => ?_)
        have e5 : ρ (.tmp 5) = .pointer (some ⟨w.heap.size, 0, none⟩) := hat.out 5 (by kernel_rfl)
        have hC := hat.cls
        have hbx := (hC.kept.block _ hl5 hn5).trans HB5.out
        have c0 := (heap_cell hbx 0).trans rfl
        have c1 := (heap_cell hbx 1).trans rfl
        have hc := hat.con
        simp only [execOp, e5]
        go_simp
      · simp at ho; subst ho
        refine fo_det (st_fin26 w.heap.size X (w.heap.size + 1 + 1) (w.heap.size + 1 + 1 + 1) (.slice (some ⟨g, 0, none⟩) ws.length cw) (.slice (some ⟨g', 0, none⟩) hs.length ch) (.int .i64 id) (.int .i64 2) (.slice (some ⟨gx, 0, none⟩) (getAll ws (burst addr many wrap)).length cx)) hcl rfl rfl rfl rfl (by kernel_rfl) (fun _ _ h => CF.step (by decide) (by decide) h) (fun done ρ W hat => ?_)
        have e12 : ρ (.tmp 12) = .pointer (some ⟨X, 0, none⟩) := hat.out 12 (by kernel_rfl)
        have hC := hat.cls
        have hbx := (hC.kept.block _ hlX hnX).trans HXX.out
        have c0 := (heap_cell hbx 0).trans rfl
        have c1 := (heap_cell hbx 1).trans rfl
        have c2 := (heap_cell hbx 2).trans rfl
        have hc := hat.con
        simp only [execOp, e12]
        go_simp
      · simp at ho; subst ho
        refine fo_rel (S := fun _ _ => True) (E := []) (fun jj _ ss dd wa wb _ hbd => still_fin26 w.heap.size X (w.heap.size + 1 + 1) (w.heap.size + 1 + 1 + 1) (.slice (some ⟨g, 0, none⟩) ws.length cw) (.slice (some ⟨g', 0, none⟩) hs.length ch) (.int .i64 id) (.int .i64 2) (.slice (some ⟨gx, 0, none⟩) (getAll ws (burst addr many wrap)).length cx) jj ss dd wa wb hbd) hcl rfl rfl (fun done ρ W hat => ?_)
        have e8 : ρ (.tmp 8) = .pointer (some ⟨(w.heap.size + 1 + 1), 0, none⟩) := hat.out 8 (by kernel_rfl)
        have e109 : ρ (.tmp 109) = .agg #[(.slice (some ⟨g, 0, none⟩) ws.length cw), (.slice (some ⟨g', 0, none⟩) hs.length ch)] := fIs_at (d := 109) (v := .agg #[(.slice (some ⟨g, 0, none⟩) ws.length cw), (.slice (some ⟨g', 0, none⟩) hs.length ch)]) (hat.fact 0 (by kernel_rfl))
        have hC := hat.cls
        have hbx := hC.o8 hat.new
        have c0 := (heap_cell hbx 0).trans rfl
        have c1 := (heap_cell hbx 1).trans rfl
        have f0 := heap_free hbx 0
        have f1 := heap_free hbx 1
        refine up_skip ((W.setCell ⟨(w.heap.size + 1 + 1), 0, none⟩ (.slice (some ⟨g, 0, none⟩) ws.length cw)).setCell ⟨(w.heap.size + 1 + 1), 1, none⟩ (.slice (some ⟨g', 0, none⟩) hs.length ch)) (by simp only [execOp]; go_simp) ⟨hC.st hat.new, trivial, trivial, fun j hj hcj => ?_⟩
        exact free_spec (X := fun _ => _) (by kernel_rfl) hat.lt j hj (by simpa using hcj)
      · simp at ho; subst ho
        refine fo_rel (S := fun _ _ => True) (E := []) (fun jj _ ss dd wa wb _ hbd => still_fin26 w.heap.size X (w.heap.size + 1 + 1) (w.heap.size + 1 + 1 + 1) (.slice (some ⟨g, 0, none⟩) ws.length cw) (.slice (some ⟨g', 0, none⟩) hs.length ch) (.int .i64 id) (.int .i64 2) (.slice (some ⟨gx, 0, none⟩) (getAll ws (burst addr many wrap)).length cx) jj ss dd wa wb hbd) hcl rfl rfl (fun done ρ W hat => ?_)
        have e9 : ρ (.tmp 9) = .pointer (some ⟨(w.heap.size + 1 + 1 + 1), 0, none⟩) := hat.out 9 (by kernel_rfl)
        have e110 : ρ (.tmp 110) = .agg #[(.int .i64 id), (.int .i64 2), (.slice (some ⟨gx, 0, none⟩) (getAll ws (burst addr many wrap)).length cx)] := fIs_at (d := 110) (v := .agg #[(.int .i64 id), (.int .i64 2), (.slice (some ⟨gx, 0, none⟩) (getAll ws (burst addr many wrap)).length cx)]) (hat.fact 1 (by kernel_rfl))
        have hC := hat.cls
        have hbx := hC.o9 hat.new
        have c0 := (heap_cell hbx 0).trans rfl
        have c1 := (heap_cell hbx 1).trans rfl
        have c2 := (heap_cell hbx 2).trans rfl
        have f0 := heap_free hbx 0
        have f1 := heap_free hbx 1
        have f2 := heap_free hbx 2
        refine up_skip (((W.setCell ⟨(w.heap.size + 1 + 1 + 1), 0, none⟩ (.int .i64 id)).setCell ⟨(w.heap.size + 1 + 1 + 1), 1, none⟩ (.int .i64 2)).setCell ⟨(w.heap.size + 1 + 1 + 1), 2, none⟩ (.slice (some ⟨gx, 0, none⟩) (getAll ws (burst addr many wrap)).length cx)) (by simp only [execOp]; go_simp) ⟨hC.rs hat.new, trivial, trivial, fun j hj hcj => ?_⟩
        exact free_spec (X := fun _ => _) (by kernel_rfl) hat.lt j hj (by simpa using hcj)
      · simp at ho
    case c0 => exact ⟨Kept.drew _ _, H4.out.b8, H4.out.b9, by omega⟩
    case done =>
      intro f WW hC hf hout
      have h8 : WW.heap[w.heap.size + 1 + 1]? = some (.cells #[.slice (some ⟨g, 0, none⟩) ws.length cw, .slice (some ⟨g', 0, none⟩) hs.length ch] 34 (0, 0)) := hC.b8
      have h9 : WW.heap[w.heap.size + 1 + 1 + 1]? = some (.cells #[.int .i64 id, .int .i64 2, .slice (some ⟨gx, 0, none⟩) (getAll ws (burst addr many wrap)).length cx] 63 (0, 0)) := hC.b9
      have s0 : WW.cell? ⟨w.heap.size + 1 + 1, 0, none⟩ = some (.slice (some ⟨g, 0, none⟩) ws.length cw) := heap_cell h8 0
      have s1 : WW.cell? ⟨w.heap.size + 1 + 1, 1, none⟩ = some (.slice (some ⟨g', 0, none⟩) hs.length ch) := heap_cell h8 1
      have y0 : WW.cell? ⟨w.heap.size + 1 + 1 + 1, 0, none⟩ = some (.int .i64 id) := heap_cell h9 0
      have y1 : WW.cell? ⟨w.heap.size + 1 + 1 + 1, 1, none⟩ = some (.int .i64 2) := heap_cell h9 1
      have y2 : WW.cell? ⟨w.heap.size + 1 + 1 + 1, 2, none⟩ = some (.slice (some ⟨gx, 0, none⟩) (getAll ws (burst addr many wrap)).length cx) := heap_cell h9 2
      have HW := Hid.intro hC.kept
      clear hC hf hout h8 h9
      simp only [fill]
      go_simp
      go_wp2
      refine bodyPost_ret (v := .tuple #[.agg #[.slice (some ⟨g, 0, none⟩) ws.length cw, .slice (some ⟨g', 0, none⟩) hs.length ch], .agg #[.int .i64 id, .int .i64 2, .slice (some ⟨gx, 0, none⟩) (getAll ws (burst addr many wrap)).length cx]]) (by simp [results, Tryz.results53, go_sem, s0, s1, y0, y1, y2]) rfl ?_
      rw [HZ.out]
      have hfl := H4.out.row.lt
      have hfl' := H4.out.row'.lt
      refine ⟨(some ⟨gx, 0, none⟩), cx, rfl, H4.out.row.of (HW.out.block g hfl (by omega)), H4.out.row'.of (HW.out.block g' hfl' (by omega)), .inr ⟨gx, rfl, by omega, hO7.of (HW.out.block gx hO7l (by omega))⟩, hcx1, by omega, ?_⟩
      exact ⟨HW.out.os.trans H4.out.kept.os, HW.out.tape.trans H4.out.kept.tape, HW.out.output.trans H4.out.kept.output, Nat.le_trans H4.out.kept.size HW.out.size, fun i hi hne => (HW.out.block i (by have := H4.out.kept.size; omega) (by omega)).trans (H4.out.kept.block i hi hne)⟩
  · exact absurd e (by decide)

end Go.Proofs.YtpamjkkghghggaaGreat

/-
  l4Do of the model, Kind 4.
-/
namespace Go.Proofs.YtpamjkkghghggaaGreat
open Go.RowKit
set_option linter.unusedSimpArgs false
set_option linter.unusedVariables false

set_option maxRecDepth 100000 in
set_option maxHeartbeats 4000000 in
theorem l4Do_4 (w0 : World) (a : Option Addr) (cap : Nat) (ms : List Rng) (g cw g' ch : Nat) (ws hs : List Int) (who : Int) (r : Req) (pd pl : Option Addr) (cd cl : Nat) (w : World)
    (hbw : Below w0.heap.size w0 w) (hm : RowOf w0 a ms) (hc : ms.length ≤ cap) (hc' : cap ≤ 9223372036854775807) (hr : ReqAt w0 r pd cd pl cl) (hMg : w0.heap.size ≤ g) (hMg' : w0.heap.size ≤ g') (hgg : g ≠ g')
    (hO : ORow 3 1 w g cw ws.length (ws.map (Value.int .i64))) (hO' : ORow 3 1 w g' ch hs.length (hs.map (Value.int .i64))) (hok : atmOkB ms ⟨ws, hs⟩ who r = true) (k : Nat) (hk : k < ms.length) (hke0 : wholeZ ms (burst r.addr r.many r.wrap) = (k : Int)) (hkd : r.kind = 4) :
    Calls Tryz.prog 53 #[.slice a ms.length cap, .agg #[.slice (some ⟨g, 0, none⟩) ws.length cw, .slice (some ⟨g', 0, none⟩) hs.length ch], .int .i64 who, reqV r pd cd pl cl] w fun e w' =>
      ∃ px cx, e = .returned (.tuple #[.agg #[.slice (some ⟨g, 0, none⟩) ws.length cw, .slice (some ⟨g', 0, none⟩) hs.length ch], rspV (atmDo ms ⟨ws, hs⟩ who r).2 px cx]) ∧
        ORow 3 1 w' g cw ws.length ((atmDo ms ⟨ws, hs⟩ who r).1.words.map (Value.int .i64)) ∧ ORow 3 1 w' g' ch hs.length ((atmDo ms ⟨ws, hs⟩ who r).1.holds.map (Value.int .i64)) ∧
        OwnN w.heap.size w' px cx (atmDo ms ⟨ws, hs⟩ who r).2.data ∧ (atmDo ms ⟨ws, hs⟩ who r).2.data.length ≤ cx ∧ cx ≤ 9223372036854775807 ∧ Kept (fun k => k = g ∨ k = g') w w' := by
  have HK0 := Hid.intro hke0
  have HKD := Hid.intro hkd
  clear hke0 hkd
  have HM := Hid.intro hm
  have HR := Hid.intro hr
  have hgl := hO.lt
  have hgl' := hO'.lt
  obtain ⟨id, kind, addr, many, wrap, data, lanes⟩ := r
  have HOK := Hid.intro hok
  have hws := hbw.size
  unfold reqV
  have hb4 : ∀ o1 o2 o3 o4, Below w.heap.size w ((((w.alloc o1).alloc o2).alloc o3).alloc o4) := fun o1 o2 o3 o4 => ((((Below.refl _ w).alloc (Nat.le_refl _) o1).alloc (by simp) o2).alloc (by simp <;> omega) o3).alloc (by simp <;> omega) o4
  have HI := Hid.intro (And.intro hbw (And.intro hO hO'))
  clear hm hr hO hO' hbw hok
  go_enter Tryz.func53, Tryz.ntmps53
  go_wp2_with fail
  obtain ⟨W1, hW1⟩ : ∃ W1, ((((w.alloc (.cells #[.slice (some ⟨g, 0, none⟩) ws.length cw, .slice (some ⟨g', 0, none⟩) hs.length ch] 34)).alloc (.cells #[.int .i64 id, .int .i64 kind, .int .i64 addr, .int .i64 many, .bool wrap, .slice pd data.length cd, .slice pl lanes.length cl] 66)).alloc (.cells #[.slice none 0 0, .slice none 0 0] 34)).alloc (.cells #[.int .i64 0, .int .i64 0, .slice none 0 0] 63)) = W1 := ⟨_, rfl⟩
  have h1 : L4 w0 w g cw g' ch ws.length hs.length #[.int .i64 id, .int .i64 kind, .int .i64 addr, .int .i64 many, .bool wrap, .slice pd data.length cd, .slice pl lanes.length cl] ws hs W1 := by
    have hbw1 : Below w.heap.size w W1 := by rw [← hW1]; exact hb4 _ _ _ _
    refine ⟨HI.out.1.trans (hbw1.mono hws), ?_, ?_, ?_, ?_, HI.out.2.1.gr hbw1, HI.out.2.2.gr hbw1, Kept.of_below hbw1⟩
    · rw [← hW1]; exact (Below.heap_alloc _ _ _ (by simp <;> omega)).trans ((Below.heap_alloc _ _ _ (by simp <;> omega)).trans ((Below.heap_alloc _ _ _ (by simp)).trans (nw_at _ rfl)))
    · rw [← hW1]; exact (Below.heap_alloc _ _ _ (by simp <;> omega)).trans ((Below.heap_alloc _ _ _ (by simp)).trans (nw_at _ (by simp)))
    · rw [← hW1]; exact (Below.heap_alloc _ _ _ (by simp)).trans (nw_at _ (by simp))
    · rw [← hW1]; exact nw_at _ (by simp)
  rw [hW1]
  clear hW1 hb4 HI
  refine (spec_AdrBurst addr many wrap W1).mono ?_
  rintro e W2 ⟨gq, cq, rfl, hq2, hgq, hcq1, hcq2, hb2⟩
  have h2 := h1.gr hb2
  have hs1 := h1.size
  clear h1 hb2
  go_wp2_with fail
  refine (l1Whole_any a cap ms (some ⟨gq, 0, none⟩) cq (burst addr many wrap) W2 (HM.out.below h2.bel) hc hc' hq2 hcq1 hcq2).mono ?_
  rintro e W3 ⟨rfl, hb3⟩
  have h3 := h2.gr hb3
  have hq3 := hq2.below hb3
  have hs3 := h3.size
  clear h2 hb3 hq2
  have c70 : W3.cell? ⟨w.heap.size + 1, 0, none⟩ = some (.int .i64 id) := heap_cell h3.b7 0
  have hx : Gr W3 (W3.alloc (.cells #[.int .i64 id, .int .i64 1, .slice none 0 0] 63)) := below_nw _ _
  have h4 := h3.gr hx
  have hX : (W3.alloc (.cells #[.int .i64 id, .int .i64 1, .slice none 0 0] 63)).heap[W3.heap.size]? = some (.cells #[.int .i64 id, .int .i64 1, .slice none 0 0] 63 (0, 0)) := nw_at _ rfl
  have hq4 := hq3.below hx
  obtain ⟨hmo, hwo, hho, hhi, ⟨hw0, hw2⟩, hro⟩ := atmOk_parts HOK.out
  have HWL := Hid.intro (memOk_len hwo)
  have HHL := Hid.intro hho
  clear hho
  have HQ4 := Hid.intro hq4
  have H4 := Hid.intro h4
  clear h4 hq4 hx
  have hke : wholeZ ms (burst addr many wrap) = (k : Int) := HK0.out
  rw [hke]
  obtain ⟨hid, hadr, hkinds⟩ := req_parts hro
  simp only at hid hadr hkinds
  have hk0 : (0 : Int) ≤ (k : Int) := by omega
  have hk1 : (k : Int) < (ms.length : Int) := by omega
  have hk2 : ¬ ((k : Int) < 0) := by omega
  have h4 := H4.out
  have HW := Hid.intro (fun W => writes_any ⟨id, kind, addr, many, wrap, data, lanes⟩ pd pl cd cl W)
  unfold reqV at HW
  have c70' : (W3.alloc (.cells #[.int .i64 id, .int .i64 1, .slice none 0 0] 63)).cell? ⟨w.heap.size + 1, 0, none⟩ = some (.int .i64 id) := heap_cell h4.b7 0
  have c71' : (W3.alloc (.cells #[.int .i64 id, .int .i64 1, .slice none 0 0] 63)).cell? ⟨w.heap.size + 1, 1, none⟩ = some (.int .i64 kind) := heap_cell h4.b7 1
  have c72' : (W3.alloc (.cells #[.int .i64 id, .int .i64 1, .slice none 0 0] 63)).cell? ⟨w.heap.size + 1, 2, none⟩ = some (.int .i64 addr) := heap_cell h4.b7 2
  have c73' : (W3.alloc (.cells #[.int .i64 id, .int .i64 1, .slice none 0 0] 63)).cell? ⟨w.heap.size + 1, 3, none⟩ = some (.int .i64 many) := heap_cell h4.b7 3
  have c74' : (W3.alloc (.cells #[.int .i64 id, .int .i64 1, .slice none 0 0] 63)).cell? ⟨w.heap.size + 1, 4, none⟩ = some (.bool wrap) := heap_cell h4.b7 4
  have c75' : (W3.alloc (.cells #[.int .i64 id, .int .i64 1, .slice none 0 0] 63)).cell? ⟨w.heap.size + 1, 5, none⟩ = some (.slice pd data.length cd) := heap_cell h4.b7 5
  have c76' : (W3.alloc (.cells #[.int .i64 id, .int .i64 1, .slice none 0 0] 63)).cell? ⟨w.heap.size + 1, 6, none⟩ = some (.slice pl lanes.length cl) := heap_cell h4.b7 6
  have hXs : w.heap.size + 4 ≤ W3.heap.size := h3.size
  go_wp2_with fail
  refine (HW.out _).mono ?_
  rintro e W5 ⟨rfl, hb5⟩
  have h5 := h4.gr hb5
  have hX5 := Gr.cells hb5 hX
  have hq5 := HQ4.out.below hb5
  have hr5 := h5.row
  have hs5 := h5.size
  have hXl : W3.heap.size < W5.heap.size := heap_lt hX5
  have hgqX : gq < W3.heap.size := by rcases hq3 with hx | ⟨b, off, e, hlt, _⟩
                                      · exfalso; obtain ⟨_, _, h3', _⟩ := (adrOk_iff addr many wrap).1 hadr; rw [burst_ok hadr] at hx; have := congrArg List.length hx; simp at this; omega
                                      · cases e; exact hlt
  clear hb5 h4 c70' c71' c72' c73' c74' c75' c76' c70 HW hX h3 hq3 HQ4 H4
  obtain ⟨X, hXe⟩ : ∃ X, X = W3.heap.size := ⟨_, rfl⟩
  rw [← hXe] at hXs hX5 hXl hgqX ⊢
  clear hXe
  rcases (HM.out.below h5.bel) with hx | ⟨bm, om, rfl, hbm, hcm⟩
  · subst hx; simp at hk
  obtain ⟨m0, m1, m2, m3⟩ := hcm k hk
  clear m0 m1 m2 hcm
  have hws0 : w0.heap.size ≤ w.heap.size := hws
  have hkd : kind = 4 := HKD.out
  clear HKD
  subst hkd
  rcases hkinds with ⟨e, hdl, hll⟩ | ⟨e, hdl, hll⟩ | ⟨e, hmy, hdl, hll⟩ | ⟨e, hmy, hdl, hll⟩
  · exact absurd e (by decide)
  · exact absurd e (by decide)
  · exact absurd e (by decide)
  · have hwB : writesB ⟨id, 4, addr, many, wrap, data, lanes⟩ = true := by simp [writesB]
    have HMY := Hid.intro hmy
    clear hmy
    have hat0 : (0 : Int) ≤ who * 2 + id := by omega
    obtain ⟨n, hn⟩ := Int.eq_ofNat_of_zero_le hat0
    have hnl : n < hs.length := by have h6 : hs.length = 6 := HHL.out; omega
    have hn0 : (0 : Int) ≤ (n : Int) := by omega
    have hn1 : (n : Int) < (hs.length : Int) := by omega
    have hbd : (burst addr many wrap).length ≤ data.length := by have := burst_ln hadr; have : many = 1 := HMY.out; omega
    have hbl2 : (burst addr many wrap).length ≤ lanes.length := by have := burst_ln hadr; have : many = 1 := HMY.out; omega
    clear hdl hll
    cases hon : ms[k].only
    rotate_left
    · have HZ : Hid ((atmDo ms ⟨ws, hs⟩ who ⟨id, 4, addr, many, wrap, data, lanes⟩) = (⟨ws, hs⟩, ⟨id, 3, []⟩)) := Hid.intro (by unfold atmDo; simp only [hke]; simp [writesB, hk2, onlyAt, hk, hon])
      rw [hwB]
      have c50 : W5.cell? ⟨w.heap.size, 0, none⟩ = some (.slice (some ⟨g, 0, none⟩) ws.length cw) := heap_cell h5.b5 0
      have c51 : W5.cell? ⟨w.heap.size, 1, none⟩ = some (.slice (some ⟨g', 0, none⟩) hs.length ch) := heap_cell h5.b5 1
      have c70 : W5.cell? ⟨w.heap.size + 1, 0, none⟩ = some (.int .i64 id) := heap_cell h5.b7 0
      have c71 : W5.cell? ⟨w.heap.size + 1, 1, none⟩ = some (.int .i64 4) := heap_cell h5.b7 1
      have c72 : W5.cell? ⟨w.heap.size + 1, 2, none⟩ = some (.int .i64 addr) := heap_cell h5.b7 2
      have c73 : W5.cell? ⟨w.heap.size + 1, 3, none⟩ = some (.int .i64 many) := heap_cell h5.b7 3
      have c74 : W5.cell? ⟨w.heap.size + 1, 4, none⟩ = some (.bool wrap) := heap_cell h5.b7 4
      have c75 : W5.cell? ⟨w.heap.size + 1, 5, none⟩ = some (.slice pd data.length cd) := heap_cell h5.b7 5
      have c76 : W5.cell? ⟨w.heap.size + 1, 6, none⟩ = some (.slice pl lanes.length cl) := heap_cell h5.b7 6
      have c80 : W5.cell? ⟨w.heap.size + 1 + 1, 0, none⟩ = some (.slice none 0 0) := heap_cell h5.b8 0
      have f80 := heap_free h5.b8 0
      have c81 : W5.cell? ⟨w.heap.size + 1 + 1, 1, none⟩ = some (.slice none 0 0) := heap_cell h5.b8 1
      have f81 := heap_free h5.b8 1
      have c90 : W5.cell? ⟨w.heap.size + 1 + 1 + 1, 0, none⟩ = some (.int .i64 0) := heap_cell h5.b9 0
      have f90 := heap_free h5.b9 0
      have c91 : W5.cell? ⟨w.heap.size + 1 + 1 + 1, 1, none⟩ = some (.int .i64 0) := heap_cell h5.b9 1
      have f91 := heap_free h5.b9 1
      have c92 : W5.cell? ⟨w.heap.size + 1 + 1 + 1, 2, none⟩ = some (.slice none 0 0) := heap_cell h5.b9 2
      have f92 := heap_free h5.b9 2
      have x0 : W5.cell? ⟨X, 0, none⟩ = some (.int .i64 id) := heap_cell hX5 0
      have x1 : W5.cell? ⟨X, 1, none⟩ = some (.int .i64 1) := heap_cell hX5 1
      have x2 : W5.cell? ⟨X, 2, none⟩ = some (.slice none 0 0) := heap_cell hX5 2
      have fx1 := heap_free hX5 1
      have fx2 := heap_free hX5 2
      go_wp2_with fail
      obtain ⟨W, hW⟩ : ∃ W, W5.setCell ⟨X, 1, none⟩ (.int .i64 3) = W := ⟨_, rfl⟩
      have h7 : L4 w0 w g cw g' ch ws.length hs.length #[.int .i64 id, .int .i64 4, .int .i64 addr, .int .i64 many, .bool wrap, .slice pd data.length cd, .slice pl lanes.length cl] ws hs W := by rw [← hW]; exact h5.setX hXs hgl hgl' hws0 1 _
      have hX7 : W.heap[X]? = some (.cells #[.int .i64 id, .int .i64 3, .slice none 0 0] 63 (0, 0)) := by rw [← hW]; exact (heap_set hX5 1 _).trans rfl
      rw [hW]
      clear x0 x1 x2 fx1 fx2 hW h5 hX5 m3 c50 c51 c70 c71 c72 c73 c74 c75 c76 c80 c81 c90 c91 c92 f80 f81 f90 f91 f92
      have hsz := h7.size
      have hl5 := heap_lt h7.b5
      have hlX := heap_lt hX7
      have HB5 := Hid.intro h7.b5
      have HXX := Hid.intro hX7
      have hn5 : ¬ (w.heap.size = w.heap.size + 1 + 1 ∨ w.heap.size = w.heap.size + 1 + 1 + 1) := by omega
      have hnX : ¬ (X = w.heap.size + 1 + 1 ∨ X = w.heap.size + 1 + 1 + 1) := by omega
      have H4 := Hid.intro h7
      clear h7
      refine wp_region_fl (by kernel_rfl) (fl_fin9 w.heap.size X (w.heap.size + 1 + 1) (w.heap.size + 1 + 1 + 1) (.slice (some ⟨g, 0, none⟩) ws.length cw) (.slice (some ⟨g', 0, none⟩) hs.length ch) (.int .i64 id) (.int .i64 3) (.slice none 0 0)) (CF (w.heap.size + 1 + 1) (w.heap.size + 1 + 1 + 1) #[.slice (some ⟨g, 0, none⟩) ws.length cw, .slice (some ⟨g', 0, none⟩) hs.length ch] #[.int .i64 id, .int .i64 3, .slice none 0 0] W) [42, 43] (by kernel_rfl) (by kernel_rfl) (by kernel_rfl) ?c0 ?looks ?done
      case looks =>
        intro hcl i o ho
        rcases i with _ | _ | _ | _ | i
        · simp at ho; subst ho
          refine fo_det (st_fin9 w.heap.size X (w.heap.size + 1 + 1) (w.heap.size + 1 + 1 + 1) (.slice (some ⟨g, 0, none⟩) ws.length cw) (.slice (some ⟨g', 0, none⟩) hs.length ch) (.int .i64 id) (.int .i64 3) (.slice none 0 0)) hcl rfl rfl rfl rfl (by kernel_rfl) (fun _ _ h => CF.step (by decide) (by decide) h) (fun done ρ W hat => ?_)
          have e5 : ρ (.tmp 5) = .pointer (some ⟨w.heap.size, 0, none⟩) := hat.out 5 (by kernel_rfl)
          have hC := hat.cls
          have hbx := (hC.kept.block _ hl5 hn5).trans HB5.out
          have c0 := (heap_cell hbx 0).trans rfl
          have c1 := (heap_cell hbx 1).trans rfl
          have hc := hat.con
          simp only [execOp, e5]
          go_simp
        · simp at ho; subst ho
          refine fo_det (st_fin9 w.heap.size X (w.heap.size + 1 + 1) (w.heap.size + 1 + 1 + 1) (.slice (some ⟨g, 0, none⟩) ws.length cw) (.slice (some ⟨g', 0, none⟩) hs.length ch) (.int .i64 id) (.int .i64 3) (.slice none 0 0)) hcl rfl rfl rfl rfl (by kernel_rfl) (fun _ _ h => CF.step (by decide) (by decide) h) (fun done ρ W hat => ?_)
          have e12 : ρ (.tmp 12) = .pointer (some ⟨X, 0, none⟩) := hat.out 12 (by kernel_rfl)
          have hC := hat.cls
          have hbx := (hC.kept.block _ hlX hnX).trans HXX.out
          have c0 := (heap_cell hbx 0).trans rfl
          have c1 := (heap_cell hbx 1).trans rfl
          have c2 := (heap_cell hbx 2).trans rfl
          have hc := hat.con
          simp only [execOp, e12]
          go_simp
        · simp at ho; subst ho
          refine fo_rel (S := fun _ _ => True) (E := []) (fun jj _ ss dd wa wb _ hbd => still_fin9 w.heap.size X (w.heap.size + 1 + 1) (w.heap.size + 1 + 1 + 1) (.slice (some ⟨g, 0, none⟩) ws.length cw) (.slice (some ⟨g', 0, none⟩) hs.length ch) (.int .i64 id) (.int .i64 3) (.slice none 0 0) jj ss dd wa wb hbd) hcl rfl rfl (fun done ρ W hat => ?_)
          have e8 : ρ (.tmp 8) = .pointer (some ⟨(w.heap.size + 1 + 1), 0, none⟩) := hat.out 8 (by kernel_rfl)
          have e42 : ρ (.tmp 42) = .agg #[(.slice (some ⟨g, 0, none⟩) ws.length cw), (.slice (some ⟨g', 0, none⟩) hs.length ch)] := fIs_at (d := 42) (v := .agg #[(.slice (some ⟨g, 0, none⟩) ws.length cw), (.slice (some ⟨g', 0, none⟩) hs.length ch)]) (hat.fact 0 (by kernel_rfl))
          have hC := hat.cls
          have hbx := hC.o8 hat.new
          have c0 := (heap_cell hbx 0).trans rfl
          have c1 := (heap_cell hbx 1).trans rfl
          have f0 := heap_free hbx 0
          have f1 := heap_free hbx 1
          refine up_skip ((W.setCell ⟨(w.heap.size + 1 + 1), 0, none⟩ (.slice (some ⟨g, 0, none⟩) ws.length cw)).setCell ⟨(w.heap.size + 1 + 1), 1, none⟩ (.slice (some ⟨g', 0, none⟩) hs.length ch)) (by simp only [execOp]; go_simp) ⟨hC.st hat.new, trivial, trivial, fun j hj hcj => ?_⟩
          exact free_spec (X := fun _ => _) (by kernel_rfl) hat.lt j hj (by simpa using hcj)
        · simp at ho; subst ho
          refine fo_rel (S := fun _ _ => True) (E := []) (fun jj _ ss dd wa wb _ hbd => still_fin9 w.heap.size X (w.heap.size + 1 + 1) (w.heap.size + 1 + 1 + 1) (.slice (some ⟨g, 0, none⟩) ws.length cw) (.slice (some ⟨g', 0, none⟩) hs.length ch) (.int .i64 id) (.int .i64 3) (.slice none 0 0) jj ss dd wa wb hbd) hcl rfl rfl (fun done ρ W hat => ?_)
          have e9 : ρ (.tmp 9) = .pointer (some ⟨(w.heap.size + 1 + 1 + 1), 0, none⟩) := hat.out 9 (by kernel_rfl)
          have e43 : ρ (.tmp 43) = .agg #[(.int .i64 id), (.int .i64 3), (.slice none 0 0)] := fIs_at (d := 43) (v := .agg #[(.int .i64 id), (.int .i64 3), (.slice none 0 0)]) (hat.fact 1 (by kernel_rfl))
          have hC := hat.cls
          have hbx := hC.o9 hat.new
          have c0 := (heap_cell hbx 0).trans rfl
          have c1 := (heap_cell hbx 1).trans rfl
          have c2 := (heap_cell hbx 2).trans rfl
          have f0 := heap_free hbx 0
          have f1 := heap_free hbx 1
          have f2 := heap_free hbx 2
          refine up_skip (((W.setCell ⟨(w.heap.size + 1 + 1 + 1), 0, none⟩ (.int .i64 id)).setCell ⟨(w.heap.size + 1 + 1 + 1), 1, none⟩ (.int .i64 3)).setCell ⟨(w.heap.size + 1 + 1 + 1), 2, none⟩ (.slice none 0 0)) (by simp only [execOp]; go_simp) ⟨hC.rs hat.new, trivial, trivial, fun j hj hcj => ?_⟩
          exact free_spec (X := fun _ => _) (by kernel_rfl) hat.lt j hj (by simpa using hcj)
        · simp at ho
      case c0 => exact ⟨Kept.drew _ _, H4.out.b8, H4.out.b9, by omega⟩
      case done =>
        intro f WW hC hf hout
        have h8 : WW.heap[w.heap.size + 1 + 1]? = some (.cells #[.slice (some ⟨g, 0, none⟩) ws.length cw, .slice (some ⟨g', 0, none⟩) hs.length ch] 34 (0, 0)) := hC.b8
        have h9 : WW.heap[w.heap.size + 1 + 1 + 1]? = some (.cells #[.int .i64 id, .int .i64 3, .slice none 0 0] 63 (0, 0)) := hC.b9
        have s0 : WW.cell? ⟨w.heap.size + 1 + 1, 0, none⟩ = some (.slice (some ⟨g, 0, none⟩) ws.length cw) := heap_cell h8 0
        have s1 : WW.cell? ⟨w.heap.size + 1 + 1, 1, none⟩ = some (.slice (some ⟨g', 0, none⟩) hs.length ch) := heap_cell h8 1
        have y0 : WW.cell? ⟨w.heap.size + 1 + 1 + 1, 0, none⟩ = some (.int .i64 id) := heap_cell h9 0
        have y1 : WW.cell? ⟨w.heap.size + 1 + 1 + 1, 1, none⟩ = some (.int .i64 3) := heap_cell h9 1
        have y2 : WW.cell? ⟨w.heap.size + 1 + 1 + 1, 2, none⟩ = some (.slice none 0 0) := heap_cell h9 2
        have HW := Hid.intro hC.kept
        clear hC hf hout h8 h9
        simp only [fill]
        go_simp
        go_wp2
        refine bodyPost_ret (v := .tuple #[.agg #[.slice (some ⟨g, 0, none⟩) ws.length cw, .slice (some ⟨g', 0, none⟩) hs.length ch], .agg #[.int .i64 id, .int .i64 3, .slice none 0 0]]) (by simp [results, Tryz.results53, go_sem, s0, s1, y0, y1, y2]) rfl ?_
        rw [HZ.out]
        have hfl := H4.out.row.lt
        have hfl' := H4.out.row'.lt
        refine ⟨none, 0, rfl, H4.out.row.of (HW.out.block g hfl (by omega)), H4.out.row'.of (HW.out.block g' hfl' (by omega)), .inl rfl, by simp, by omega, ?_⟩
        exact ⟨HW.out.os.trans H4.out.kept.os, HW.out.tape.trans H4.out.kept.tape, HW.out.output.trans H4.out.kept.output, Nat.le_trans H4.out.kept.size HW.out.size, fun i hi hne => (HW.out.block i (by have := H4.out.kept.size; omega) (by omega)).trans (H4.out.kept.block i hi hne)⟩
    · rw [hon] at m3
      have gh : W5.cell? ⟨g', n, none⟩ = some (.int .i64 hs[n]) := h5.row'.get n _ (by simp [hnl])
      by_cases hh : hs[n] = addr
      · have HZ : Hid ((atmDo ms ⟨ws, hs⟩ who ⟨id, 4, addr, many, wrap, data, lanes⟩) = (⟨putAll ws (burst addr many wrap) data lanes, freeAll hs (burst addr many wrap)⟩, ⟨id, 2, []⟩)) := Hid.intro (by unfold atmDo; simp only [hke]; simp [writesB, hk2, onlyAt, hk, hon, atR, hn, getZ, List.getD_eq_getElem?_getD, hnl, hh])
        have hq1 : (hs[n] != addr) = false := by simp [hh]
        have HHH := Hid.intro hh
        clear hh
        rw [hwB]
        have c50 : W5.cell? ⟨w.heap.size, 0, none⟩ = some (.slice (some ⟨g, 0, none⟩) ws.length cw) := heap_cell h5.b5 0
        have c51 : W5.cell? ⟨w.heap.size, 1, none⟩ = some (.slice (some ⟨g', 0, none⟩) hs.length ch) := heap_cell h5.b5 1
        have c70 : W5.cell? ⟨w.heap.size + 1, 0, none⟩ = some (.int .i64 id) := heap_cell h5.b7 0
        have c71 : W5.cell? ⟨w.heap.size + 1, 1, none⟩ = some (.int .i64 4) := heap_cell h5.b7 1
        have c72 : W5.cell? ⟨w.heap.size + 1, 2, none⟩ = some (.int .i64 addr) := heap_cell h5.b7 2
        have c73 : W5.cell? ⟨w.heap.size + 1, 3, none⟩ = some (.int .i64 many) := heap_cell h5.b7 3
        have c74 : W5.cell? ⟨w.heap.size + 1, 4, none⟩ = some (.bool wrap) := heap_cell h5.b7 4
        have c75 : W5.cell? ⟨w.heap.size + 1, 5, none⟩ = some (.slice pd data.length cd) := heap_cell h5.b7 5
        have c76 : W5.cell? ⟨w.heap.size + 1, 6, none⟩ = some (.slice pl lanes.length cl) := heap_cell h5.b7 6
        have c80 : W5.cell? ⟨w.heap.size + 1 + 1, 0, none⟩ = some (.slice none 0 0) := heap_cell h5.b8 0
        have f80 := heap_free h5.b8 0
        have c81 : W5.cell? ⟨w.heap.size + 1 + 1, 1, none⟩ = some (.slice none 0 0) := heap_cell h5.b8 1
        have f81 := heap_free h5.b8 1
        have c90 : W5.cell? ⟨w.heap.size + 1 + 1 + 1, 0, none⟩ = some (.int .i64 0) := heap_cell h5.b9 0
        have f90 := heap_free h5.b9 0
        have c91 : W5.cell? ⟨w.heap.size + 1 + 1 + 1, 1, none⟩ = some (.int .i64 0) := heap_cell h5.b9 1
        have f91 := heap_free h5.b9 1
        have c92 : W5.cell? ⟨w.heap.size + 1 + 1 + 1, 2, none⟩ = some (.slice none 0 0) := heap_cell h5.b9 2
        have f92 := heap_free h5.b9 2
        go_wp2_with fail
        go_quiet (fail)
        have hdr : Gr W5 (W5.drewN nq) := below_drewN (Below.refl _ _) nq
        have h5d := h5.gr hdr
        have hX5d := Gr.cells hdr hX5
        have hq5d := hq5.below hdr
        have hXd : X < (W5.drewN nq).heap.size := hXl
        generalize W5.drewN nq = V at h5d hX5d hq5d hXd ⊢
        clear c50 c51 c70 c71 c72 c73 c74 c75 c76 c80 c81 c90 c91 c92 f80 f81 f90 f91 f92 gh m3 h5 hX5 hq5 hdr
        have c50 : V.cell? ⟨w.heap.size, 0, none⟩ = some (.slice (some ⟨g, 0, none⟩) ws.length cw) := heap_cell h5d.b5 0
        have c51 : V.cell? ⟨w.heap.size, 1, none⟩ = some (.slice (some ⟨g', 0, none⟩) hs.length ch) := heap_cell h5d.b5 1
        have c70 : V.cell? ⟨w.heap.size + 1, 0, none⟩ = some (.int .i64 id) := heap_cell h5d.b7 0
        have c71 : V.cell? ⟨w.heap.size + 1, 1, none⟩ = some (.int .i64 4) := heap_cell h5d.b7 1
        have c72 : V.cell? ⟨w.heap.size + 1, 2, none⟩ = some (.int .i64 addr) := heap_cell h5d.b7 2
        have c73 : V.cell? ⟨w.heap.size + 1, 3, none⟩ = some (.int .i64 many) := heap_cell h5d.b7 3
        have c74 : V.cell? ⟨w.heap.size + 1, 4, none⟩ = some (.bool wrap) := heap_cell h5d.b7 4
        have c75 : V.cell? ⟨w.heap.size + 1, 5, none⟩ = some (.slice pd data.length cd) := heap_cell h5d.b7 5
        have c76 : V.cell? ⟨w.heap.size + 1, 6, none⟩ = some (.slice pl lanes.length cl) := heap_cell h5d.b7 6
        have c80 : V.cell? ⟨w.heap.size + 1 + 1, 0, none⟩ = some (.slice none 0 0) := heap_cell h5d.b8 0
        have f80 := heap_free h5d.b8 0
        have c81 : V.cell? ⟨w.heap.size + 1 + 1, 1, none⟩ = some (.slice none 0 0) := heap_cell h5d.b8 1
        have f81 := heap_free h5d.b8 1
        have c90 : V.cell? ⟨w.heap.size + 1 + 1 + 1, 0, none⟩ = some (.int .i64 0) := heap_cell h5d.b9 0
        have f90 := heap_free h5d.b9 0
        have c91 : V.cell? ⟨w.heap.size + 1 + 1 + 1, 1, none⟩ = some (.int .i64 0) := heap_cell h5d.b9 1
        have f91 := heap_free h5d.b9 1
        have c92 : V.cell? ⟨w.heap.size + 1 + 1 + 1, 2, none⟩ = some (.slice none 0 0) := heap_cell h5d.b9 2
        have f92 := heap_free h5d.b9 2
        have x0 : V.cell? ⟨X, 0, none⟩ = some (.int .i64 id) := heap_cell hX5d 0
        have x1 : V.cell? ⟨X, 1, none⟩ = some (.int .i64 1) := heap_cell hX5d 1
        have x2 : V.cell? ⟨X, 2, none⟩ = some (.slice none 0 0) := heap_cell hX5d 2
        have fx1 := heap_free hX5d 1
        have fx2 := heap_free hX5d 2
        go_wp2_with fail
        obtain ⟨V5, hV5⟩ : ∃ V5, V.setCell ⟨X, 1, none⟩ (.int .i64 2) = V5 := ⟨_, rfl⟩
        have v5 : L4 w0 w g cw g' ch ws.length hs.length #[.int .i64 id, .int .i64 4, .int .i64 addr, .int .i64 many, .bool wrap, .slice pd data.length cd, .slice pl lanes.length cl] ws hs V5 := by rw [← hV5]; exact h5d.setX hXs hgl hgl' hws0 1 _
        have vX5 : V5.heap[X]? = some (.cells #[.int .i64 id, .int .i64 2, .slice none 0 0] 63 (0, 0)) := by rw [← hV5]; exact (heap_set hX5d 1 _).trans rfl
        have vq5 : IntsAt V5 (some ⟨gq, 0, none⟩) (burst addr many wrap) := by rw [← hV5]; exact intsK hq5d (Kept.setCell (D := fun k => k = X) (p := ⟨X, 1, none⟩) _ rfl _) (by omega)
        have hXl5 : X < V5.heap.size := heap_lt vX5
        have hs5v := v5.size
        rw [hV5]
        clear x0 x1 x2 fx1 fx2 hV5 h5d hX5d hq5d 
        have hR := HR.out.below v5.bel
        refine (spec_l2Put g cw ws (some ⟨gq, 0, none⟩) cq (burst addr many wrap) pd cd data pl cl lanes V5 v5.row vq5 (.inr fun b off e => by cases e; omega) hR.data (offB HR.out.data hMg) hR.lanes (offB HR.out.lanes hMg) (by have := burst_le addr many wrap; omega) hbd hbl2 (fun x hx => by have := burst_in x hx; have h64 : ws.length = 64 := HWL.out; omega)).mono ?_
        rintro e W6 ⟨rfl, hO6, hk6⟩
        have h6 := v5.turn (.inl rfl) hgl hgl' hws0 hMg hMg' hk6 hO6 (v5.row'.of (hk6.block g' v5.row'.lt (by omega)))
        have hX6 := (hk6.block X (by omega) (by omega)).trans vX5
        have hq6 : IntsAt W6 (some ⟨gq, 0, none⟩) (burst addr many wrap) := intsK vq5 hk6 (by omega)
        have hk6s := hk6.size
        clear hO6 hk6 hR
        clear c50 c51 c70 c71 c72 c73 c74 c75 c76 c80 c81 c90 c91 c92 f80 f81 f90 f91 f92
        have c50 : W6.cell? ⟨w.heap.size, 0, none⟩ = some (.slice (some ⟨g, 0, none⟩) ws.length cw) := heap_cell h6.b5 0
        have c51 : W6.cell? ⟨w.heap.size, 1, none⟩ = some (.slice (some ⟨g', 0, none⟩) hs.length ch) := heap_cell h6.b5 1
        have c70 : W6.cell? ⟨w.heap.size + 1, 0, none⟩ = some (.int .i64 id) := heap_cell h6.b7 0
        have c71 : W6.cell? ⟨w.heap.size + 1, 1, none⟩ = some (.int .i64 4) := heap_cell h6.b7 1
        have c72 : W6.cell? ⟨w.heap.size + 1, 2, none⟩ = some (.int .i64 addr) := heap_cell h6.b7 2
        have c73 : W6.cell? ⟨w.heap.size + 1, 3, none⟩ = some (.int .i64 many) := heap_cell h6.b7 3
        have c74 : W6.cell? ⟨w.heap.size + 1, 4, none⟩ = some (.bool wrap) := heap_cell h6.b7 4
        have c75 : W6.cell? ⟨w.heap.size + 1, 5, none⟩ = some (.slice pd data.length cd) := heap_cell h6.b7 5
        have c76 : W6.cell? ⟨w.heap.size + 1, 6, none⟩ = some (.slice pl lanes.length cl) := heap_cell h6.b7 6
        have c80 : W6.cell? ⟨w.heap.size + 1 + 1, 0, none⟩ = some (.slice none 0 0) := heap_cell h6.b8 0
        have f80 := heap_free h6.b8 0
        have c81 : W6.cell? ⟨w.heap.size + 1 + 1, 1, none⟩ = some (.slice none 0 0) := heap_cell h6.b8 1
        have f81 := heap_free h6.b8 1
        have c90 : W6.cell? ⟨w.heap.size + 1 + 1 + 1, 0, none⟩ = some (.int .i64 0) := heap_cell h6.b9 0
        have f90 := heap_free h6.b9 0
        have c91 : W6.cell? ⟨w.heap.size + 1 + 1 + 1, 1, none⟩ = some (.int .i64 0) := heap_cell h6.b9 1
        have f91 := heap_free h6.b9 1
        have c92 : W6.cell? ⟨w.heap.size + 1 + 1 + 1, 2, none⟩ = some (.slice none 0 0) := heap_cell h6.b9 2
        have f92 := heap_free h6.b9 2
        have f50 := heap_free h6.b5 0
        have f51 := heap_free h6.b5 1
        go_wp2_with fail
        obtain ⟨W7, hW7⟩ : ∃ W7, W6.setCell ⟨w.heap.size, 0, none⟩ (.slice (some ⟨g, 0, none⟩) ws.length cw) = W7 := ⟨_, rfl⟩
        have h7 : L4 w0 w g cw g' ch ws.length hs.length #[.int .i64 id, .int .i64 4, .int .i64 addr, .int .i64 many, .bool wrap, .slice pd data.length cd, .slice pl lanes.length cl] (putAll ws (burst addr many wrap) data lanes) hs W7 := by rw [← hW7]; exact h6.box0 hgl hgl' hws0
        have hX7 : W7.heap[X]? = some (.cells #[.int .i64 id, .int .i64 2, .slice none 0 0] 63 (0, 0)) := by rw [← hW7]; exact (heap_set_ne (by omega)).trans hX6
        have hq7 : IntsAt W7 (some ⟨gq, 0, none⟩) (burst addr many wrap) := by rw [← hW7]; exact intsK hq6 (Kept.setCell (D := fun k => k = w.heap.size) (p := ⟨w.heap.size, 0, none⟩) _ rfl _) (by omega)
        have hs7 : W6.heap.size ≤ W7.heap.size := by rw [← hW7]; simp
        rw [hW7]
        clear hW7 h6 hX6 hq6 f50 f51
        refine (spec_l4Free (some ⟨g, 0, none⟩) ws.length cw g' ch hs (some ⟨gq, 0, none⟩) cq (burst addr many wrap) W7 h7.row' hq7 (.inr fun b off e => by cases e; omega) (by have h6 : hs.length = 6 := HHL.out; omega) (by have := burst_le addr many wrap; omega)).mono ?_
        rintro e W8 ⟨rfl, hO8, hk8⟩
        have h8 := h7.turn (.inr rfl) hgl hgl' hws0 hMg hMg' hk8 (h7.row.of (hk8.block g h7.row.lt (by omega))) hO8
        have hX8 := (hk8.block X (by omega) (by omega)).trans hX7
        have hk8s := hk8.size
        clear hO8 hk8 h7 hX7 hq7
        clear c50 c51 c70 c71 c72 c73 c74 c75 c76 c80 c81 c90 c91 c92 f80 f81 f90 f91 f92
        have c50 : W8.cell? ⟨w.heap.size, 0, none⟩ = some (.slice (some ⟨g, 0, none⟩) ws.length cw) := heap_cell h8.b5 0
        have c51 : W8.cell? ⟨w.heap.size, 1, none⟩ = some (.slice (some ⟨g', 0, none⟩) hs.length ch) := heap_cell h8.b5 1
        have c70 : W8.cell? ⟨w.heap.size + 1, 0, none⟩ = some (.int .i64 id) := heap_cell h8.b7 0
        have c71 : W8.cell? ⟨w.heap.size + 1, 1, none⟩ = some (.int .i64 4) := heap_cell h8.b7 1
        have c72 : W8.cell? ⟨w.heap.size + 1, 2, none⟩ = some (.int .i64 addr) := heap_cell h8.b7 2
        have c73 : W8.cell? ⟨w.heap.size + 1, 3, none⟩ = some (.int .i64 many) := heap_cell h8.b7 3
        have c74 : W8.cell? ⟨w.heap.size + 1, 4, none⟩ = some (.bool wrap) := heap_cell h8.b7 4
        have c75 : W8.cell? ⟨w.heap.size + 1, 5, none⟩ = some (.slice pd data.length cd) := heap_cell h8.b7 5
        have c76 : W8.cell? ⟨w.heap.size + 1, 6, none⟩ = some (.slice pl lanes.length cl) := heap_cell h8.b7 6
        have c80 : W8.cell? ⟨w.heap.size + 1 + 1, 0, none⟩ = some (.slice none 0 0) := heap_cell h8.b8 0
        have f80 := heap_free h8.b8 0
        have c81 : W8.cell? ⟨w.heap.size + 1 + 1, 1, none⟩ = some (.slice none 0 0) := heap_cell h8.b8 1
        have f81 := heap_free h8.b8 1
        have c90 : W8.cell? ⟨w.heap.size + 1 + 1 + 1, 0, none⟩ = some (.int .i64 0) := heap_cell h8.b9 0
        have f90 := heap_free h8.b9 0
        have c91 : W8.cell? ⟨w.heap.size + 1 + 1 + 1, 1, none⟩ = some (.int .i64 0) := heap_cell h8.b9 1
        have f91 := heap_free h8.b9 1
        have c92 : W8.cell? ⟨w.heap.size + 1 + 1 + 1, 2, none⟩ = some (.slice none 0 0) := heap_cell h8.b9 2
        have f92 := heap_free h8.b9 2
        have f50 := heap_free h8.b5 0
        have f51 := heap_free h8.b5 1
        go_wp2_with fail
        obtain ⟨W, hW⟩ : ∃ W, (W8.setCell ⟨w.heap.size, 0, none⟩ (.slice (some ⟨g, 0, none⟩) ws.length cw)).setCell ⟨w.heap.size, 1, none⟩ (.slice (some ⟨g', 0, none⟩) hs.length ch) = W := ⟨_, rfl⟩
        have h9 : L4 w0 w g cw g' ch ws.length hs.length #[.int .i64 id, .int .i64 4, .int .i64 addr, .int .i64 many, .bool wrap, .slice pd data.length cd, .slice pl lanes.length cl] (putAll ws (burst addr many wrap) data lanes) (freeAll hs (burst addr many wrap)) W := by rw [← hW]; exact (h8.box0 hgl hgl' hws0).box1 hgl hgl' hws0
        have hX9 : W.heap[X]? = some (.cells #[.int .i64 id, .int .i64 2, .slice none 0 0] 63 (0, 0)) := by rw [← hW]; exact (heap_set_ne (by omega)).trans ((heap_set_ne (by omega)).trans hX8)
        rw [hW]
        clear hW h8 hX8 f50 f51 c50 c51 c70 c71 c72 c73 c74 c75 c76 c80 c81 c90 c91 c92 f80 f81 f90 f91 f92
        have hsz := h9.size
        have hl5 := heap_lt h9.b5
        have hlX := heap_lt hX9
        have HB5 := Hid.intro h9.b5
        have HXX := Hid.intro hX9
        have hn5 : ¬ (w.heap.size = w.heap.size + 1 + 1 ∨ w.heap.size = w.heap.size + 1 + 1 + 1) := by omega
        have hnX : ¬ (X = w.heap.size + 1 + 1 ∨ X = w.heap.size + 1 + 1 + 1) := by omega
        have H4 := Hid.intro h9
        clear h9
        refine wp_region_fl (by kernel_rfl) (fl_fin26 w.heap.size X (w.heap.size + 1 + 1) (w.heap.size + 1 + 1 + 1) (.slice (some ⟨g, 0, none⟩) ws.length cw) (.slice (some ⟨g', 0, none⟩) hs.length ch) (.int .i64 id) (.int .i64 2) (.slice none 0 0)) (CF (w.heap.size + 1 + 1) (w.heap.size + 1 + 1 + 1) #[.slice (some ⟨g, 0, none⟩) ws.length cw, .slice (some ⟨g', 0, none⟩) hs.length ch] #[.int .i64 id, .int .i64 2, .slice none 0 0] W) [109, 110] (by kernel_rfl) (by kernel_rfl) (by kernel_rfl) ?c0 ?looks ?done
        case looks =>
          intro hcl i o ho
          rcases i with _ | _ | _ | _ | i
          · simp at ho; subst ho
            refine fo_det (st_fin26 w.heap.size X (w.heap.size + 1 + 1) (w.heap.size + 1 + 1 + 1) (.slice (some ⟨g, 0, none⟩) ws.length cw) (.slice (some ⟨g', 0, none⟩) hs.length ch) (.int .i64 id) (.int .i64 2) (.slice none 0 0)) hcl rfl rfl rfl rfl (by kernel_rfl) (fun _ _ h => CF.step (by decide) (by decide) h) (fun done ρ W hat => ?_)
            have e5 : ρ (.tmp 5) = .pointer (some ⟨w.heap.size, 0, none⟩) := hat.out 5 (by kernel_rfl)
            have hC := hat.cls
            have hbx := (hC.kept.block _ hl5 hn5).trans HB5.out
            have c0 := (heap_cell hbx 0).trans rfl
            have c1 := (heap_cell hbx 1).trans rfl
            have hc := hat.con
            simp only [execOp, e5]
            go_simp
          · simp at ho; subst ho
            refine fo_det (st_fin26 w.heap.size X (w.heap.size + 1 + 1) (w.heap.size + 1 + 1 + 1) (.slice (some ⟨g, 0, none⟩) ws.length cw) (.slice (some ⟨g', 0, none⟩) hs.length ch) (.int .i64 id) (.int .i64 2) (.slice none 0 0)) hcl rfl rfl rfl rfl (by kernel_rfl) (fun _ _ h => CF.step (by decide) (by decide) h) (fun done ρ W hat => ?_)
            have e12 : ρ (.tmp 12) = .pointer (some ⟨X, 0, none⟩) := hat.out 12 (by kernel_rfl)
            have hC := hat.cls
            have hbx := (hC.kept.block _ hlX hnX).trans HXX.out
            have c0 := (heap_cell hbx 0).trans rfl
            have c1 := (heap_cell hbx 1).trans rfl
            have c2 := (heap_cell hbx 2).trans rfl
            have hc := hat.con
            simp only [execOp, e12]
            go_simp
          · simp at ho; subst ho
            refine fo_rel (S := fun _ _ => True) (E := []) (fun jj _ ss dd wa wb _ hbd => still_fin26 w.heap.size X (w.heap.size + 1 + 1) (w.heap.size + 1 + 1 + 1) (.slice (some ⟨g, 0, none⟩) ws.length cw) (.slice (some ⟨g', 0, none⟩) hs.length ch) (.int .i64 id) (.int .i64 2) (.slice none 0 0) jj ss dd wa wb hbd) hcl rfl rfl (fun done ρ W hat => ?_)
            have e8 : ρ (.tmp 8) = .pointer (some ⟨(w.heap.size + 1 + 1), 0, none⟩) := hat.out 8 (by kernel_rfl)
            have e109 : ρ (.tmp 109) = .agg #[(.slice (some ⟨g, 0, none⟩) ws.length cw), (.slice (some ⟨g', 0, none⟩) hs.length ch)] := fIs_at (d := 109) (v := .agg #[(.slice (some ⟨g, 0, none⟩) ws.length cw), (.slice (some ⟨g', 0, none⟩) hs.length ch)]) (hat.fact 0 (by kernel_rfl))
            have hC := hat.cls
            have hbx := hC.o8 hat.new
            have c0 := (heap_cell hbx 0).trans rfl
            have c1 := (heap_cell hbx 1).trans rfl
            have f0 := heap_free hbx 0
            have f1 := heap_free hbx 1
            refine up_skip ((W.setCell ⟨(w.heap.size + 1 + 1), 0, none⟩ (.slice (some ⟨g, 0, none⟩) ws.length cw)).setCell ⟨(w.heap.size + 1 + 1), 1, none⟩ (.slice (some ⟨g', 0, none⟩) hs.length ch)) (by simp only [execOp]; go_simp) ⟨hC.st hat.new, trivial, trivial, fun j hj hcj => ?_⟩
            exact free_spec (X := fun _ => _) (by kernel_rfl) hat.lt j hj (by simpa using hcj)
          · simp at ho; subst ho
            refine fo_rel (S := fun _ _ => True) (E := []) (fun jj _ ss dd wa wb _ hbd => still_fin26 w.heap.size X (w.heap.size + 1 + 1) (w.heap.size + 1 + 1 + 1) (.slice (some ⟨g, 0, none⟩) ws.length cw) (.slice (some ⟨g', 0, none⟩) hs.length ch) (.int .i64 id) (.int .i64 2) (.slice none 0 0) jj ss dd wa wb hbd) hcl rfl rfl (fun done ρ W hat => ?_)
            have e9 : ρ (.tmp 9) = .pointer (some ⟨(w.heap.size + 1 + 1 + 1), 0, none⟩) := hat.out 9 (by kernel_rfl)
            have e110 : ρ (.tmp 110) = .agg #[(.int .i64 id), (.int .i64 2), (.slice none 0 0)] := fIs_at (d := 110) (v := .agg #[(.int .i64 id), (.int .i64 2), (.slice none 0 0)]) (hat.fact 1 (by kernel_rfl))
            have hC := hat.cls
            have hbx := hC.o9 hat.new
            have c0 := (heap_cell hbx 0).trans rfl
            have c1 := (heap_cell hbx 1).trans rfl
            have c2 := (heap_cell hbx 2).trans rfl
            have f0 := heap_free hbx 0
            have f1 := heap_free hbx 1
            have f2 := heap_free hbx 2
            refine up_skip (((W.setCell ⟨(w.heap.size + 1 + 1 + 1), 0, none⟩ (.int .i64 id)).setCell ⟨(w.heap.size + 1 + 1 + 1), 1, none⟩ (.int .i64 2)).setCell ⟨(w.heap.size + 1 + 1 + 1), 2, none⟩ (.slice none 0 0)) (by simp only [execOp]; go_simp) ⟨hC.rs hat.new, trivial, trivial, fun j hj hcj => ?_⟩
            exact free_spec (X := fun _ => _) (by kernel_rfl) hat.lt j hj (by simpa using hcj)
          · simp at ho
        case c0 => exact ⟨Kept.drew _ _, H4.out.b8, H4.out.b9, by omega⟩
        case done =>
          intro f WW hC hf hout
          have h8 : WW.heap[w.heap.size + 1 + 1]? = some (.cells #[.slice (some ⟨g, 0, none⟩) ws.length cw, .slice (some ⟨g', 0, none⟩) hs.length ch] 34 (0, 0)) := hC.b8
          have h9 : WW.heap[w.heap.size + 1 + 1 + 1]? = some (.cells #[.int .i64 id, .int .i64 2, .slice none 0 0] 63 (0, 0)) := hC.b9
          have s0 : WW.cell? ⟨w.heap.size + 1 + 1, 0, none⟩ = some (.slice (some ⟨g, 0, none⟩) ws.length cw) := heap_cell h8 0
          have s1 : WW.cell? ⟨w.heap.size + 1 + 1, 1, none⟩ = some (.slice (some ⟨g', 0, none⟩) hs.length ch) := heap_cell h8 1
          have y0 : WW.cell? ⟨w.heap.size + 1 + 1 + 1, 0, none⟩ = some (.int .i64 id) := heap_cell h9 0
          have y1 : WW.cell? ⟨w.heap.size + 1 + 1 + 1, 1, none⟩ = some (.int .i64 2) := heap_cell h9 1
          have y2 : WW.cell? ⟨w.heap.size + 1 + 1 + 1, 2, none⟩ = some (.slice none 0 0) := heap_cell h9 2
          have HW := Hid.intro hC.kept
          clear hC hf hout h8 h9
          simp only [fill]
          go_simp
          go_wp2
          refine bodyPost_ret (v := .tuple #[.agg #[.slice (some ⟨g, 0, none⟩) ws.length cw, .slice (some ⟨g', 0, none⟩) hs.length ch], .agg #[.int .i64 id, .int .i64 2, .slice none 0 0]]) (by simp [results, Tryz.results53, go_sem, s0, s1, y0, y1, y2]) rfl ?_
          rw [HZ.out]
          have hfl := H4.out.row.lt
          have hfl' := H4.out.row'.lt
          refine ⟨none, 0, rfl, H4.out.row.of (HW.out.block g hfl (by omega)), H4.out.row'.of (HW.out.block g' hfl' (by omega)), .inl rfl, by simp, by omega, ?_⟩
          exact ⟨HW.out.os.trans H4.out.kept.os, HW.out.tape.trans H4.out.kept.tape, HW.out.output.trans H4.out.kept.output, Nat.le_trans H4.out.kept.size HW.out.size, fun i hi hne => (HW.out.block i (by have := H4.out.kept.size; omega) (by omega)).trans (H4.out.kept.block i hi hne)⟩
      · have HZ : Hid ((atmDo ms ⟨ws, hs⟩ who ⟨id, 4, addr, many, wrap, data, lanes⟩) = (⟨ws, hs⟩, ⟨id, 1, []⟩)) := Hid.intro (by unfold atmDo; simp only [hke]; simp [writesB, hk2, onlyAt, hk, hon, atR, hn, getZ, List.getD_eq_getElem?_getD, hnl, hh])
        have hq1 : (hs[n] != addr) = true := by simpa using hh
        have HHH := Hid.intro hh
        clear hh
        rw [hwB]
        have c50 : W5.cell? ⟨w.heap.size, 0, none⟩ = some (.slice (some ⟨g, 0, none⟩) ws.length cw) := heap_cell h5.b5 0
        have c51 : W5.cell? ⟨w.heap.size, 1, none⟩ = some (.slice (some ⟨g', 0, none⟩) hs.length ch) := heap_cell h5.b5 1
        have c70 : W5.cell? ⟨w.heap.size + 1, 0, none⟩ = some (.int .i64 id) := heap_cell h5.b7 0
        have c71 : W5.cell? ⟨w.heap.size + 1, 1, none⟩ = some (.int .i64 4) := heap_cell h5.b7 1
        have c72 : W5.cell? ⟨w.heap.size + 1, 2, none⟩ = some (.int .i64 addr) := heap_cell h5.b7 2
        have c73 : W5.cell? ⟨w.heap.size + 1, 3, none⟩ = some (.int .i64 many) := heap_cell h5.b7 3
        have c74 : W5.cell? ⟨w.heap.size + 1, 4, none⟩ = some (.bool wrap) := heap_cell h5.b7 4
        have c75 : W5.cell? ⟨w.heap.size + 1, 5, none⟩ = some (.slice pd data.length cd) := heap_cell h5.b7 5
        have c76 : W5.cell? ⟨w.heap.size + 1, 6, none⟩ = some (.slice pl lanes.length cl) := heap_cell h5.b7 6
        have c80 : W5.cell? ⟨w.heap.size + 1 + 1, 0, none⟩ = some (.slice none 0 0) := heap_cell h5.b8 0
        have f80 := heap_free h5.b8 0
        have c81 : W5.cell? ⟨w.heap.size + 1 + 1, 1, none⟩ = some (.slice none 0 0) := heap_cell h5.b8 1
        have f81 := heap_free h5.b8 1
        have c90 : W5.cell? ⟨w.heap.size + 1 + 1 + 1, 0, none⟩ = some (.int .i64 0) := heap_cell h5.b9 0
        have f90 := heap_free h5.b9 0
        have c91 : W5.cell? ⟨w.heap.size + 1 + 1 + 1, 1, none⟩ = some (.int .i64 0) := heap_cell h5.b9 1
        have f91 := heap_free h5.b9 1
        have c92 : W5.cell? ⟨w.heap.size + 1 + 1 + 1, 2, none⟩ = some (.slice none 0 0) := heap_cell h5.b9 2
        have f92 := heap_free h5.b9 2
        go_wp2_with fail
        go_quiet (fail)
        have hdr : Gr W5 (W5.drewN nq) := below_drewN (Below.refl _ _) nq
        have h5d := h5.gr hdr
        have hX5d := Gr.cells hdr hX5
        generalize W5.drewN nq = V at h5d hX5d ⊢
        clear c50 c51 c70 c71 c72 c73 c74 c75 c76 c80 c81 c90 c91 c92 f80 f81 f90 f91 f92 gh m3 h5 hX5 hq5 hdr
        go_wp2_with fail
        have hsz := h5d.size
        have hl5 := heap_lt h5d.b5
        have hlX := heap_lt hX5d
        have HB5 := Hid.intro h5d.b5
        have HXX := Hid.intro hX5d
        have hn5 : ¬ (w.heap.size = w.heap.size + 1 + 1 ∨ w.heap.size = w.heap.size + 1 + 1 + 1) := by omega
        have hnX : ¬ (X = w.heap.size + 1 + 1 ∨ X = w.heap.size + 1 + 1 + 1) := by omega
        have H4 := Hid.intro h5d
        clear h5d
        refine wp_region_fl (by kernel_rfl) (fl_fin22 w.heap.size X (w.heap.size + 1 + 1) (w.heap.size + 1 + 1 + 1) (.slice (some ⟨g, 0, none⟩) ws.length cw) (.slice (some ⟨g', 0, none⟩) hs.length ch) (.int .i64 id) (.int .i64 1) (.slice none 0 0)) (CF (w.heap.size + 1 + 1) (w.heap.size + 1 + 1 + 1) #[.slice (some ⟨g, 0, none⟩) ws.length cw, .slice (some ⟨g', 0, none⟩) hs.length ch] #[.int .i64 id, .int .i64 1, .slice none 0 0] V) [94, 95] (by kernel_rfl) (by kernel_rfl) (by kernel_rfl) ?c0 ?looks ?done
        case looks =>
          intro hcl i o ho
          rcases i with _ | _ | _ | _ | i
          · simp at ho; subst ho
            refine fo_det (st_fin22 w.heap.size X (w.heap.size + 1 + 1) (w.heap.size + 1 + 1 + 1) (.slice (some ⟨g, 0, none⟩) ws.length cw) (.slice (some ⟨g', 0, none⟩) hs.length ch) (.int .i64 id) (.int .i64 1) (.slice none 0 0)) hcl rfl rfl rfl rfl (by kernel_rfl) (fun _ _ h => CF.step (by decide) (by decide) h) (fun done ρ W hat => ?_)
            have e5 : ρ (.tmp 5) = .pointer (some ⟨w.heap.size, 0, none⟩) := hat.out 5 (by kernel_rfl)
            have hC := hat.cls
            have hbx := (hC.kept.block _ hl5 hn5).trans HB5.out
            have c0 := (heap_cell hbx 0).trans rfl
            have c1 := (heap_cell hbx 1).trans rfl
            have hc := hat.con
            simp only [execOp, e5]
            go_simp
          · simp at ho; subst ho
            refine fo_det (st_fin22 w.heap.size X (w.heap.size + 1 + 1) (w.heap.size + 1 + 1 + 1) (.slice (some ⟨g, 0, none⟩) ws.length cw) (.slice (some ⟨g', 0, none⟩) hs.length ch) (.int .i64 id) (.int .i64 1) (.slice none 0 0)) hcl rfl rfl rfl rfl (by kernel_rfl) (fun _ _ h => CF.step (by decide) (by decide) h) (fun done ρ W hat => ?_)
            have e12 : ρ (.tmp 12) = .pointer (some ⟨X, 0, none⟩) := hat.out 12 (by kernel_rfl)
            have hC := hat.cls
            have hbx := (hC.kept.block _ hlX hnX).trans HXX.out
            have c0 := (heap_cell hbx 0).trans rfl
            have c1 := (heap_cell hbx 1).trans rfl
            have c2 := (heap_cell hbx 2).trans rfl
            have hc := hat.con
            simp only [execOp, e12]
            go_simp
          · simp at ho; subst ho
            refine fo_rel (S := fun _ _ => True) (E := []) (fun jj _ ss dd wa wb _ hbd => still_fin22 w.heap.size X (w.heap.size + 1 + 1) (w.heap.size + 1 + 1 + 1) (.slice (some ⟨g, 0, none⟩) ws.length cw) (.slice (some ⟨g', 0, none⟩) hs.length ch) (.int .i64 id) (.int .i64 1) (.slice none 0 0) jj ss dd wa wb hbd) hcl rfl rfl (fun done ρ W hat => ?_)
            have e8 : ρ (.tmp 8) = .pointer (some ⟨(w.heap.size + 1 + 1), 0, none⟩) := hat.out 8 (by kernel_rfl)
            have e94 : ρ (.tmp 94) = .agg #[(.slice (some ⟨g, 0, none⟩) ws.length cw), (.slice (some ⟨g', 0, none⟩) hs.length ch)] := fIs_at (d := 94) (v := .agg #[(.slice (some ⟨g, 0, none⟩) ws.length cw), (.slice (some ⟨g', 0, none⟩) hs.length ch)]) (hat.fact 0 (by kernel_rfl))
            have hC := hat.cls
            have hbx := hC.o8 hat.new
            have c0 := (heap_cell hbx 0).trans rfl
            have c1 := (heap_cell hbx 1).trans rfl
            have f0 := heap_free hbx 0
            have f1 := heap_free hbx 1
            refine up_skip ((W.setCell ⟨(w.heap.size + 1 + 1), 0, none⟩ (.slice (some ⟨g, 0, none⟩) ws.length cw)).setCell ⟨(w.heap.size + 1 + 1), 1, none⟩ (.slice (some ⟨g', 0, none⟩) hs.length ch)) (by simp only [execOp]; go_simp) ⟨hC.st hat.new, trivial, trivial, fun j hj hcj => ?_⟩
            exact free_spec (X := fun _ => _) (by kernel_rfl) hat.lt j hj (by simpa using hcj)
          · simp at ho; subst ho
            refine fo_rel (S := fun _ _ => True) (E := []) (fun jj _ ss dd wa wb _ hbd => still_fin22 w.heap.size X (w.heap.size + 1 + 1) (w.heap.size + 1 + 1 + 1) (.slice (some ⟨g, 0, none⟩) ws.length cw) (.slice (some ⟨g', 0, none⟩) hs.length ch) (.int .i64 id) (.int .i64 1) (.slice none 0 0) jj ss dd wa wb hbd) hcl rfl rfl (fun done ρ W hat => ?_)
            have e9 : ρ (.tmp 9) = .pointer (some ⟨(w.heap.size + 1 + 1 + 1), 0, none⟩) := hat.out 9 (by kernel_rfl)
            have e95 : ρ (.tmp 95) = .agg #[(.int .i64 id), (.int .i64 1), (.slice none 0 0)] := fIs_at (d := 95) (v := .agg #[(.int .i64 id), (.int .i64 1), (.slice none 0 0)]) (hat.fact 1 (by kernel_rfl))
            have hC := hat.cls
            have hbx := hC.o9 hat.new
            have c0 := (heap_cell hbx 0).trans rfl
            have c1 := (heap_cell hbx 1).trans rfl
            have c2 := (heap_cell hbx 2).trans rfl
            have f0 := heap_free hbx 0
            have f1 := heap_free hbx 1
            have f2 := heap_free hbx 2
            refine up_skip (((W.setCell ⟨(w.heap.size + 1 + 1 + 1), 0, none⟩ (.int .i64 id)).setCell ⟨(w.heap.size + 1 + 1 + 1), 1, none⟩ (.int .i64 1)).setCell ⟨(w.heap.size + 1 + 1 + 1), 2, none⟩ (.slice none 0 0)) (by simp only [execOp]; go_simp) ⟨hC.rs hat.new, trivial, trivial, fun j hj hcj => ?_⟩
            exact free_spec (X := fun _ => _) (by kernel_rfl) hat.lt j hj (by simpa using hcj)
          · simp at ho
        case c0 => exact ⟨Kept.drew _ _, H4.out.b8, H4.out.b9, by omega⟩
        case done =>
          intro f WW hC hf hout
          have h8 : WW.heap[w.heap.size + 1 + 1]? = some (.cells #[.slice (some ⟨g, 0, none⟩) ws.length cw, .slice (some ⟨g', 0, none⟩) hs.length ch] 34 (0, 0)) := hC.b8
          have h9 : WW.heap[w.heap.size + 1 + 1 + 1]? = some (.cells #[.int .i64 id, .int .i64 1, .slice none 0 0] 63 (0, 0)) := hC.b9
          have s0 : WW.cell? ⟨w.heap.size + 1 + 1, 0, none⟩ = some (.slice (some ⟨g, 0, none⟩) ws.length cw) := heap_cell h8 0
          have s1 : WW.cell? ⟨w.heap.size + 1 + 1, 1, none⟩ = some (.slice (some ⟨g', 0, none⟩) hs.length ch) := heap_cell h8 1
          have y0 : WW.cell? ⟨w.heap.size + 1 + 1 + 1, 0, none⟩ = some (.int .i64 id) := heap_cell h9 0
          have y1 : WW.cell? ⟨w.heap.size + 1 + 1 + 1, 1, none⟩ = some (.int .i64 1) := heap_cell h9 1
          have y2 : WW.cell? ⟨w.heap.size + 1 + 1 + 1, 2, none⟩ = some (.slice none 0 0) := heap_cell h9 2
          have HW := Hid.intro hC.kept
          clear hC hf hout h8 h9
          simp only [fill]
          go_simp
          go_wp2
          refine bodyPost_ret (v := .tuple #[.agg #[.slice (some ⟨g, 0, none⟩) ws.length cw, .slice (some ⟨g', 0, none⟩) hs.length ch], .agg #[.int .i64 id, .int .i64 1, .slice none 0 0]]) (by simp [results, Tryz.results53, go_sem, s0, s1, y0, y1, y2]) rfl ?_
          rw [HZ.out]
          have hfl := H4.out.row.lt
          have hfl' := H4.out.row'.lt
          refine ⟨none, 0, rfl, H4.out.row.of (HW.out.block g hfl (by omega)), H4.out.row'.of (HW.out.block g' hfl' (by omega)), .inl rfl, by simp, by omega, ?_⟩
          exact ⟨HW.out.os.trans H4.out.kept.os, HW.out.tape.trans H4.out.kept.tape, HW.out.output.trans H4.out.kept.output, Nat.le_trans H4.out.kept.size HW.out.size, fun i hi hne => (HW.out.block i (by have := H4.out.kept.size; omega) (by omega)).trans (H4.out.kept.block i hi hne)⟩

end Go.Proofs.YtpamjkkghghggaaGreat

namespace Go.Proofs.YtpamjkkghghggaaGreat
open Go.RowKit
set_option linter.unusedSimpArgs false
set_option linter.unusedVariables false

theorem l4Do_any (w0 : World) (a : Option Addr) (cap : Nat) (ms : List Rng) (g cw g' ch : Nat) (ws hs : List Int) (who : Int) (r : Req) (pd pl : Option Addr) (cd cl : Nat) (w : World)
    (hbw : Below w0.heap.size w0 w) (hm : RowOf w0 a ms) (hc : ms.length ≤ cap) (hc' : cap ≤ 9223372036854775807) (hr : ReqAt w0 r pd cd pl cl) (hMg : w0.heap.size ≤ g) (hMg' : w0.heap.size ≤ g') (hgg : g ≠ g')
    (hO : ORow 3 1 w g cw ws.length (ws.map (Value.int .i64))) (hO' : ORow 3 1 w g' ch hs.length (hs.map (Value.int .i64))) (hok : atmOkB ms ⟨ws, hs⟩ who r = true) :
    Calls Tryz.prog 53 #[.slice a ms.length cap, .agg #[.slice (some ⟨g, 0, none⟩) ws.length cw, .slice (some ⟨g', 0, none⟩) hs.length ch], .int .i64 who, reqV r pd cd pl cl] w fun e w' =>
      ∃ px cx, e = .returned (.tuple #[.agg #[.slice (some ⟨g, 0, none⟩) ws.length cw, .slice (some ⟨g', 0, none⟩) hs.length ch], rspV (atmDo ms ⟨ws, hs⟩ who r).2 px cx]) ∧
        ORow 3 1 w' g cw ws.length ((atmDo ms ⟨ws, hs⟩ who r).1.words.map (Value.int .i64)) ∧ ORow 3 1 w' g' ch hs.length ((atmDo ms ⟨ws, hs⟩ who r).1.holds.map (Value.int .i64)) ∧
        OwnN w.heap.size w' px cx (atmDo ms ⟨ws, hs⟩ who r).2.data ∧ (atmDo ms ⟨ws, hs⟩ who r).2.data.length ≤ cx ∧ cx ≤ 9223372036854775807 ∧ Kept (fun k => k = g ∨ k = g') w w' := by
  rcases whole_range ms (burst r.addr r.many r.wrap) with hk | ⟨k, hk, hke⟩
  · exact l4Do_none w0 a cap ms g cw g' ch ws hs who r pd pl cd cl w hbw hm hc hc' hr hMg hMg' hgg hO hO' hok hk
  · obtain ⟨_, _, h9⟩ := req_parts (atmOk_parts hok).2.2.2.2.2
    have hkk : r.kind = 1 ∨ r.kind = 2 ∨ r.kind = 3 ∨ r.kind = 4 := by omega
    rcases hkk with h | h | h | h
    · exact l4Do_1 w0 a cap ms g cw g' ch ws hs who r pd pl cd cl w hbw hm hc hc' hr hMg hMg' hgg hO hO' hok k hk hke h
    · exact l4Do_2 w0 a cap ms g cw g' ch ws hs who r pd pl cd cl w hbw hm hc hc' hr hMg hMg' hgg hO hO' hok k hk hke h
    · exact l4Do_3 w0 a cap ms g cw g' ch ws hs who r pd pl cd cl w hbw hm hc hc' hr hMg hMg' hgg hO hO' hok k hk hke h
    · exact l4Do_4 w0 a cap ms g cw g' ch ws hs who r pd pl cd cl w hbw hm hc hc' hr hMg hMg' hgg hO hO' hok k hk hke h

theorem kept_kt {W W' : World} {g g' : Nat} {c1 c2 n1 n2 : Nat} {l1 l2 : List Value} (h : Kept (fun k => k = g ∨ k = g') W W') (h1 : ORow 3 1 W g c1 n1 l1) (h2 : ORow 3 1 W g' c2 n2 l2) : KT 3 W W' := by
  refine ⟨h.os, h.tape, h.output, h.size, fun k o ho hne => ?_⟩
  have hk : ¬ (k = g ∨ k = g') := by
    rintro (rfl | rfl)
    · obtain ⟨cur, e, _⟩ := h1
      rw [e] at ho; cases ho; exact hne cur (0, 0) rfl
    · obtain ⟨cur, e, _⟩ := h2
      rw [e] at ho; cases ho; exact hne cur (0, 0) rfl
  exact (h.block k (Array.getElem?_eq_some_iff.1 ho).1 hk).trans ho
theorem OwnN.kt {M t : Nat} {w w' : World} {p : Option Addr} {cap : Nat} {l : List Int} (h : OwnN M w p cap l) (hk : KT t w w') (ht : t ≠ 3) : OwnN M w' p cap l := by
  rcases h with h | ⟨g, h1, h2, h3⟩
  · exact .inl h
  · exact .inr ⟨g, h1, h2, h3.kt hk ht⟩

theorem up_store2 {F : World → Value → Prop} {ρ : Operand → Value} {o : Oper} {w : World} {t u b : Nat} {o0 o1 : Value} {p0 p1 : Option Addr} {n0 k0 n1 k1 : Nat} (ho : o.op = .store 34 (.tmp t) (.tmp u))
    (e1 : ρ (.tmp t) = .pointer (some ⟨b, 0, none⟩)) (e2 : ρ (.tmp u) = .agg #[.slice p0 n0 k0, .slice p1 n1 k1]) (hb : w.heap[b]? = some (.cells #[o0, o1] 34 (0, 0)))
    (hF : F ((w.setCell ⟨b, 0, none⟩ (.slice p0 n0 k0)).setCell ⟨b, 1, none⟩ (.slice p1 n1 k1)) undef) : tyUpon Tryz.prog F ((execOp ρ o).run Tryz.prog w) := by
  have c0 : w.cell? ⟨b, 0, none⟩ = some o0 := heap_cell hb 0
  have c1 : w.cell? ⟨b, 1, none⟩ = some o1 := heap_cell hb 1
  have f0 := heap_free hb 0
  have f1 := heap_free hb 1
  refine up_skip _ ?_ hF
  clear hF hb
  simp only [execOp, ho]
  go_simp

theorem up_store3 {F : World → Value → Prop} {ρ : Operand → Value} {o : Oper} {w : World} {t u b : Nat} {o0 o1 o2 : Value} {i0 i1 : Int} {p2 : Option Addr} {n2 k2 : Nat} (ho : o.op = .store 63 (.tmp t) (.tmp u))
    (e1 : ρ (.tmp t) = .pointer (some ⟨b, 0, none⟩)) (e2 : ρ (.tmp u) = .agg #[.int .i64 i0, .int .i64 i1, .slice p2 n2 k2]) (hb : w.heap[b]? = some (.cells #[o0, o1, o2] 63 (0, 0)))
    (hF : F (((w.setCell ⟨b, 0, none⟩ (.int .i64 i0)).setCell ⟨b, 1, none⟩ (.int .i64 i1)).setCell ⟨b, 2, none⟩ (.slice p2 n2 k2)) undef) : tyUpon Tryz.prog F ((execOp ρ o).run Tryz.prog w) := by
  have c0 : w.cell? ⟨b, 0, none⟩ = some o0 := heap_cell hb 0
  have c1 : w.cell? ⟨b, 1, none⟩ = some o1 := heap_cell hb 1
  have c2 : w.cell? ⟨b, 2, none⟩ = some o2 := heap_cell hb 2
  have f0 := heap_free hb 0
  have f1 := heap_free hb 1
  have f2 := heap_free hb 2
  refine up_skip _ ?_ hF
  clear hF hb
  simp only [execOp, ho]
  go_simp

def fl_atmM (vl vs vw vq : Value) (M : Nat) (K2 K5 : World → Value → Prop) (B5 B7 : Nat) : List Fact := [
  fIs 33 (vl),
  fIs 34 (vs),
  ⟨[35], [5], fun s d w => d 5 = true ∨ K2 w (s 35)⟩,
  fIs 36 (vw),
  fIs 37 (vq),
  fK 38 K5,
  fK 32 K5,
  ⟨[32, 39], [], fun s _ _ => ∃ b, s 32 = .tuple #[s 39, b]⟩,
  ⟨[32, 40], [], fun s _ _ => ∃ b, s 32 = .tuple #[b, s 40]⟩,
  ⟨[10], [], fun s _ w => ∃ b v0 v1, s 10 = .pointer (some ⟨b, 0, none⟩) ∧ M ≤ b ∧ w.heap[b]? = some (.cells #[v0, v1] 34 (0, 0))⟩,
  ⟨[11], [], fun s _ w => ∃ b v0 v1 v2, s 11 = .pointer (some ⟨b, 0, none⟩) ∧ M ≤ b ∧ w.heap[b]? = some (.cells #[v0, v1, v2] 63 (0, 0))⟩,
  ⟨[10, 39], [], fun s _ w => ∃ b v0 v1, s 10 = .pointer (some ⟨b, 0, none⟩) ∧ M ≤ b ∧ s 39 = .agg #[v0, v1] ∧ w.heap[b]? = some (.cells #[v0, v1] 34 (0, 0))⟩,
  ⟨[11, 40], [], fun s _ w => ∃ b v0 v1 v2, s 11 = .pointer (some ⟨b, 0, none⟩) ∧ M ≤ b ∧ s 40 = .agg #[v0, v1, v2] ∧ w.heap[b]? = some (.cells #[v0, v1, v2] 63 (0, 0))⟩]

theorem st_atmM (vl vs vw vq : Value) (M : Nat) (K2 K5 : World → Value → Prop) (B5 B7 : Nat) (h2g : ∀ w w' v, Gr w w' → K2 w v → K2 w' v) (h5g : ∀ w w' v, Gr w w' → K5 w v → K5 w' v) : ∀ F ∈ fl_atmM vl vs vw vq M K2 K5 B5 B7, F.Stab :=
  stab_cons (fIs_stab _ _) <|
  stab_cons (fIs_stab _ _) <|
  stab_cons (fun s d w w' hg h => h.imp id (h2g w w' _ hg)) <|
  stab_cons (fIs_stab _ _) <|
  stab_cons (fIs_stab _ _) <|
  stab_cons (fK_stab h5g) <|
  stab_cons (fK_stab h5g) <|
  stab_cons (fun _ _ _ _ _ h => h) <|
  stab_cons (fun _ _ _ _ _ h => h) <|
  stab_cons (fun _ _ _ _ hg h => (let ⟨b, v0, v1, h1, h2, h3⟩ := h; ⟨b, v0, v1, h1, h2, hg.cells h3⟩)) <|
  stab_cons (fun _ _ _ _ hg h => (let ⟨b, v0, v1, v2, h1, h2, h3⟩ := h; ⟨b, v0, v1, v2, h1, h2, hg.cells h3⟩)) <|
  stab_cons (fun _ _ _ _ hg h => (let ⟨b, v0, v1, h1, h2, h3, h4⟩ := h; ⟨b, v0, v1, h1, h2, h3, hg.cells h4⟩)) <|
  stab_cons (fun _ _ _ _ hg h => (let ⟨b, v0, v1, v2, h1, h2, h3, h4⟩ := h; ⟨b, v0, v1, v2, h1, h2, h3, hg.cells h4⟩)) stab_nil

theorem kt5_atmM (vl vs vw vq : Value) (M : Nat) (K2 K5 : World → Value → Prop) (B5 B7 : Nat) : ∀ j, [2, 5, 6].contains j = false → ∀ s d w w', KT 3 w w' → (factsOf (fl_atmM vl vs vw vq M K2 K5 B5 B7) j).body s d w → (factsOf (fl_atmM vl vs vw vq M K2 K5 B5 B7) j).body s d w' := by
  intro j hj s d w w' hk hb
  rcases j with _ | _ | _ | _ | _ | _ | _ | _ | _ | _ | _ | _ | _ | j
  · exact hb
  · exact hb
  · simp at hj
  · exact hb
  · exact hb
  · simp at hj
  · simp at hj
  · exact hb
  · exact hb
  · obtain ⟨b, v0, v1, h1, h2, h3⟩ := hb; exact ⟨b, v0, v1, h1, h2, hk.cells h3 (by decide)⟩
  · obtain ⟨b, v0, v1, v2, h1, h2, h3⟩ := hb; exact ⟨b, v0, v1, v2, h1, h2, hk.cells h3 (by decide)⟩
  · obtain ⟨b, v0, v1, h1, h2, h3, h4⟩ := hb; exact ⟨b, v0, v1, h1, h2, h3, hk.cells h4 (by decide)⟩
  · obtain ⟨b, v0, v1, v2, h1, h2, h3, h4⟩ := hb; exact ⟨b, v0, v1, v2, h1, h2, h3, hk.cells h4 (by decide)⟩
  · trivial

theorem kt11_atmM (vl vs vw vq : Value) (M : Nat) (K2 K5 : World → Value → Prop) (B5 B7 : Nat) (h2t : ∀ w w' v, KT 34 w w' → K2 w v → K2 w' v) (h5t : ∀ w w' v, KT 34 w w' → K5 w v → K5 w' v) : ∀ j, [9, 11].contains j = false → ∀ s d w w', KT 34 w w' → (factsOf (fl_atmM vl vs vw vq M K2 K5 B5 B7) j).body s d w → (factsOf (fl_atmM vl vs vw vq M K2 K5 B5 B7) j).body s d w' := by
  intro j hj s d w w' hk hb
  rcases j with _ | _ | _ | _ | _ | _ | _ | _ | _ | _ | _ | _ | _ | j
  · exact hb
  · exact hb
  · exact hb.imp id (h2t _ _ _ hk)
  · exact hb
  · exact hb
  · exact h5t _ _ _ hk hb
  · exact h5t _ _ _ hk hb
  · exact hb
  · exact hb
  · simp at hj
  · obtain ⟨b, v0, v1, v2, h1, h2, h3⟩ := hb; exact ⟨b, v0, v1, v2, h1, h2, hk.cells h3 (by decide)⟩
  · simp at hj
  · obtain ⟨b, v0, v1, v2, h1, h2, h3, h4⟩ := hb; exact ⟨b, v0, v1, v2, h1, h2, h3, hk.cells h4 (by decide)⟩
  · trivial

theorem kt12_atmM (vl vs vw vq : Value) (M : Nat) (K2 K5 : World → Value → Prop) (B5 B7 : Nat) (h2t : ∀ w w' v, KT 63 w w' → K2 w v → K2 w' v) (h5t : ∀ w w' v, KT 63 w w' → K5 w v → K5 w' v) : ∀ j, [10, 12].contains j = false → ∀ s d w w', KT 63 w w' → (factsOf (fl_atmM vl vs vw vq M K2 K5 B5 B7) j).body s d w → (factsOf (fl_atmM vl vs vw vq M K2 K5 B5 B7) j).body s d w' := by
  intro j hj s d w w' hk hb
  rcases j with _ | _ | _ | _ | _ | _ | _ | _ | _ | _ | _ | _ | _ | j
  · exact hb
  · exact hb
  · exact hb.imp id (h2t _ _ _ hk)
  · exact hb
  · exact hb
  · exact h5t _ _ _ hk hb
  · exact h5t _ _ _ hk hb
  · exact hb
  · exact hb
  · obtain ⟨b, v0, v1, h1, h2, h3⟩ := hb; exact ⟨b, v0, v1, h1, h2, hk.cells h3 (by decide)⟩
  · simp at hj
  · obtain ⟨b, v0, v1, h1, h2, h3, h4⟩ := hb; exact ⟨b, v0, v1, h1, h2, h3, hk.cells h4 (by decide)⟩
  · simp at hj
  · trivial

theorem ask5_atmM {vl vs vw vq : Value} {M : Nat} {K2 K5 : World → Value → Prop} {B5 B7 : Nat} (j : Nat) (hj : j < 13) (h : [2, 5, 6].contains j = true ∨ (factsOf (fl_atmM vl vs vw vq M K2 K5 B5 B7) j).dones.contains 5 = true) : j = 2 ∨ j = 5 ∨ j = 6 := by
  rcases j with _ | _ | _ | _ | _ | _ | _ | _ | _ | _ | _ | _ | _ | j
  all_goals first | omega | (rcases h with h | h <;> exact absurd (show false = true from h) (by decide))

theorem ask11_atmM {vl vs vw vq : Value} {M : Nat} {K2 K5 : World → Value → Prop} {B5 B7 : Nat} (j : Nat) (hj : j < 13) (h : [9, 11].contains j = true ∨ (factsOf (fl_atmM vl vs vw vq M K2 K5 B5 B7) j).dones.contains 11 = true) : j = 9 ∨ j = 11 := by
  rcases j with _ | _ | _ | _ | _ | _ | _ | _ | _ | _ | _ | _ | _ | j
  all_goals first | omega | (rcases h with h | h <;> exact absurd (show false = true from h) (by decide))

theorem ask12_atmM {vl vs vw vq : Value} {M : Nat} {K2 K5 : World → Value → Prop} {B5 B7 : Nat} (j : Nat) (hj : j < 13) (h : [10, 12].contains j = true ∨ (factsOf (fl_atmM vl vs vw vq M K2 K5 B5 B7) j).dones.contains 12 = true) : j = 10 ∨ j = 12 := by
  rcases j with _ | _ | _ | _ | _ | _ | _ | _ | _ | _ | _ | _ | _ | j
  all_goals first | omega | (rcases h with h | h <;> exact absurd (show false = true from h) (by decide))

end Go.Proofs.YtpamjkkghghggaaGreat
