/-
  spec's l20In: whatever the code, what comes from outside in a cycle, in memory of its own; nothing that was there has turned but the reader.
-/
import Derived.Test.YtgcpjddnnamdhaaInA
import Derived.Test.YtgcpjddnnamdhaaDrawWrd
import Derived.Deep.RegionWith
namespace Go.Proofs.Ytgcpjddnnamdhaa
open Go.RowKit
set_option linter.unusedSimpArgs false
set_option linter.unusedVariables false

/-- in the making -/
structure IS (B M R g h k p : Nat) (w0 w : World) : Prop where
  rd : ∃ q, q ≤ p ∧ Rd w B q
  keep : Keep B w0 w
  box : w.heap[M]? = some (.cells #[.slice (some ⟨g, 0, none⟩) 3 3, .slice (some ⟨h, 0, none⟩) 4 4, .slice (some ⟨k, 0, none⟩) 3 3] 35 (0, 0))
  res : w.heap[R]? = some (.cells #[.slice none 0 0, .slice none 0 0, .slice none 0 0] 35 (0, 0))
  rg : ∃ xs : List Bool, xs.length = 3 ∧ ORow 4 1 w g 3 3 (xs.map Value.bool)
  rh : ∃ xs : List Bool, xs.length = 4 ∧ ORow 4 1 w h 4 4 (xs.map Value.bool)
  rk : ∃ xs : List Bool, xs.length = 3 ∧ ORow 4 1 w k 3 3 (xs.map Value.bool)
  lo : B < w0.heap.size ∧ w0.heap.size ≤ M ∧ w0.heap.size ≤ R ∧ w0.heap.size ≤ g ∧ w0.heap.size ≤ h ∧ w0.heap.size ≤ k
  ne : M ≠ R ∧ M ≠ g ∧ M ≠ h ∧ M ≠ k ∧ R ≠ g ∧ R ≠ h ∧ R ≠ k ∧ g ≠ h ∧ h ≠ k ∧ g ≠ k
theorem IS.le {B M R g h k p p' : Nat} {w0 w : World} (i : IS B M R g h k p w0 w) (hp : p ≤ p') : IS B M R g h k p' w0 w :=
  { i with rd := by obtain ⟨q, h1, h2⟩ := i.rd; exact ⟨q, by omega, h2⟩ }
theorem IS.step {B M R g h k p q : Nat} {w0 w w' : World} (i : IS B M R g h k p w0 w) (hk : Keep B w w') (hr : Rd w' B q) (hq : q ≤ p + 40) : IS B M R g h k (p + 40) w0 w' := by
  have lo := i.lo
  exact { i with
    rd := ⟨q, hq, hr⟩
    keep := i.keep.trans hk
    box := (hk.block M (heap_lt i.box) (by omega)).trans i.box
    res := (hk.block R (heap_lt i.res) (by omega)).trans i.res
    rg := by obtain ⟨xs, h1, h2⟩ := i.rg; exact ⟨xs, h1, h2.of (hk.block g h2.lt (by omega))⟩
    rh := by obtain ⟨xs, h1, h2⟩ := i.rh; exact ⟨xs, h1, h2.of (hk.block h h2.lt (by omega))⟩
    rk := by obtain ⟨xs, h1, h2⟩ := i.rk; exact ⟨xs, h1, h2.of (hk.block k h2.lt (by omega))⟩ }
theorem IS.drew {B M R g h k p : Nat} {w0 w : World} (i : IS B M R g h k p w0 w) : IS B M R g h k p w0 w.drew :=
  ⟨i.rd, i.keep.drew, i.box, i.res, i.rg, i.rh, i.rk, i.lo, i.ne⟩
/-- a bool stored in one of the rows -/
theorem IS.put {B M R g h k p : Nat} {w0 w : World} (i : IS B M R g h k p w0 w) (b j : Nat) (v : Bool) (hb : (b = g ∧ j < 3) ∨ (b = h ∧ j < 4) ∨ (b = k ∧ j < 3)) : IS B M R g h k p w0 (w.setCell ⟨b, j, none⟩ (.bool v)) := by
  have lo := i.lo
  have ne := i.ne
  have hne : ∀ x, x ≠ b → (w.setCell ⟨b, j, none⟩ (.bool v)).heap[x]? = w.heap[x]? := fun x hx => heap_set_ne hx
  obtain ⟨q, h1, h2⟩ := i.rd
  obtain ⟨xs, x1, x2⟩ := i.rg
  obtain ⟨ys, y1, y2⟩ := i.rh
  obtain ⟨zs, z1, z2⟩ := i.rk
  refine ⟨⟨q, h1, h2.other (x := ⟨b, j, none⟩) (by simp; omega) _⟩, i.keep.setCell (p := ⟨b, j, none⟩) (.inr (by simp; omega)) _, (hne M (by omega)).trans i.box, (hne R (by omega)).trans i.res, ?_, ?_, ?_, i.lo, i.ne⟩
  · by_cases e : b = g
    · subst e; exact ⟨xs.set j v, by simpa using x1, x2.setB j (by omega) v⟩
    · exact ⟨xs, x1, x2.of (hne g (fun e' => e e'.symm))⟩
  · by_cases e : b = h
    · subst e; exact ⟨ys.set j v, by simpa using y1, y2.setB j (by omega) v⟩
    · exact ⟨ys, y1, y2.of (hne h (fun e' => e e'.symm))⟩
  · by_cases e : b = k
    · subst e; exact ⟨zs.set j v, by simpa using z1, z2.setB j (by omega) v⟩
    · exact ⟨zs, z1, z2.of (hne k (fun e' => e e'.symm))⟩
theorem ORow.has {w : World} {b cap n : Nat} {xs : List Bool} (o : ORow 4 1 w b cap n (xs.map Value.bool)) (hn : xs.length = n) (j : Nat) (hj : j < n) : (∃ x, w.cell? ⟨b, j, none⟩ = some (.bool x)) ∧ w.frozen? ⟨b, j, none⟩ = false := by
  refine ⟨⟨xs[j]'(by omega), o.get j _ (by simp [hn, hj])⟩, ?_⟩
  obtain ⟨cur, e1, _⟩ := o
  simp [World.frozen?, e1]
theorem pick_is {B M R g h k p : Nat} {w0 w : World} (i : IS B M R g h k p w0 w) (hp : p ≤ 80000) (n : Int) (hn : 1 ≤ n) (hn' : n ≤ 1000) :
    Calls Try.prog 44 #[.pointer (some ⟨B, 0, none⟩), .int .i64 n] w fun e w' => ∃ x : Int, 0 ≤ x ∧ x < n ∧ e = .returned (.int .i64 x) ∧ IS B M R g h k (p + 40) w0 w' := by
  obtain ⟨q, h1, h2⟩ := i.rd
  refine (pick_at h2 (by omega) n hn hn').mono ?_
  rintro e w' ⟨x, a1, a2, rfl, hr, hK⟩
  exact ⟨x, a1, a2, rfl, i.step hK hr (by omega)⟩

/-- what l20In leaves -/
def InPost (B p : Nat) (w : World) (v : Value) (w' : World) : Prop := ∃ (x : Inn) (g h k p' : Nat), v = inV x (some ⟨g, 0, none⟩) (some ⟨h, 0, none⟩) (some ⟨k, 0, none⟩) 3 4 3 ∧ x.ready.length = 3 ∧ x.stall.length = 4 ∧ x.send.length = 3 ∧ InOwn w.heap.size w' x g h k ∧ Rd w' B p' ∧ p' ≤ p + 1000 ∧ Keep B w w'

set_option maxRecDepth 100000 in
set_option maxHeartbeats 4000000 in
theorem l20In_any (B p : Nat) (n : Int) (w : World) (hr : Rd w B p) (hp : p ≤ 50000) (hn : 1 ≤ n) (hn' : n ≤ 1000) :
    Calls Try.prog 43 #[.pointer (some ⟨B, 0, none⟩), .int .i64 n] w fun e w' => ∃ v, e = .returned v ∧ InPost B p w v w' := by
  have hB := hr.lt
  go_enter Try.func43, Try.ntmps43
  go_wp2_with fail
  refine (spec_InAll _).mono ?_
  rintro e w1 ⟨g, h, k, rfl, hO, hb1⟩
  have hs1 := hb1.size
  have lo := hO.lo
  have gh := hO.gh
  have hk := hO.hk
  have gk := hO.gk
  simp at hs1 lo
  have hi : IS B w1.heap.size w.heap.size g h k p w (w1.alloc (.cells #[.slice (some ⟨g, 0, none⟩) 3 3, .slice (some ⟨h, 0, none⟩) 4 4, .slice (some ⟨k, 0, none⟩) 3 3] 35)) := by
    have hx : Below w1.heap.size w1 (w1.alloc (.cells #[.slice (some ⟨g, 0, none⟩) 3 3, .slice (some ⟨h, 0, none⟩) 4 4, .slice (some ⟨k, 0, none⟩) 3 3] 35)) := (Below.refl _ _).alloc (Nat.le_refl _) _
    have hw : Below w.heap.size w w1 := ((Below.refl _ w).alloc (Nat.le_refl _) _).trans (hb1.mono (by simp))
    have l1 := hO.ready.lt
    have l2 := hO.stall.lt
    have l3 := hO.send.lt
    refine ⟨⟨p, Nat.le_refl _, (hr.below hw).below hx⟩, (Keep.of_below hw).trans (Keep.of_below hx), in_nw _ rfl, (hx.block _ (by omega)).trans ((hb1.block _ (by simp)).trans (in_nw _ rfl)), ⟨_, rfl, hO.ready.of (hx.block g l1)⟩, ⟨_, rfl, hO.stall.of (hx.block h l2)⟩, ⟨_, rfl, hO.send.of (hx.block k l3)⟩, ⟨hB, by omega, by omega, by omega, by omega, by omega⟩, ⟨by omega, by omega, by omega, by omega, by omega, by omega, by omega, gh, hk, gk⟩⟩
  obtain ⟨M, eM⟩ : ∃ M, M = w1.heap.size := ⟨_, rfl⟩
  obtain ⟨R, eR⟩ : ∃ R, R = w.heap.size := ⟨_, rfl⟩
  have HI := Hid.intro hi
  clear hi hO hb1
  unfold inV inAllX
  go_wp2
  rw [← eM] at HI ⊢
  rw [← eR] at HI ⊢
  clear eM eR lo hs1 gh hk gk hr
  go_loopw [6] (fun i wr => ∃ j : Nat, j ≤ 3 ∧ i = .int .i64 j ∧ Hid (IS B M R g h k (p + 80 * j) w wr)) (fun i _ => 3 - (intOf i).toNat)
  case atStart => exact ⟨0, by omega, rfl, HI⟩
  case round =>
    clear HI
    obtain ⟨j, hj, rfl, HI⟩ := hrel
    have lo := HI.out.lo
    have ne := HI.out.ne
    by_cases hlt : j < 3
    · have hj0 : (0 : Int) ≤ (j : Int) := by omega
      have hj1 : (j : Int) < 3 := by omega
      go_upto_region 5 with fail
      go_cut [] (fun wx => Hid (IS B M R g h k (p + 80 * j + 40) w wx))
      case first =>
        have m0 : wr.cell? ⟨M, 0, none⟩ = some (.slice (some ⟨g, 0, none⟩) 3 3) := heap_cell HI.out.box 0
        obtain ⟨xs, xl, xo⟩ := HI.out.rg
        obtain ⟨⟨x0, cg⟩, fg⟩ := xo.has xl j (by omega)
        clear xo
        go_region_with (go_at_call 44; refine (pick_is (p := p + 80 * j) (M := M) (R := R) (g := g) (h := h) (k := k) (w0 := w) (by first | exact HI.out.drew.le (by omega) | exact HI.out.le (by omega)) (by omega) n hn hn').mono ?_; rintro e w2 ⟨x, a1, a2, rfl, i2⟩; have m0 : w2.cell? ⟨M, 0, none⟩ = some (.slice (some ⟨g, 0, none⟩) 3 3) := heap_cell i2.box 0; obtain ⟨ys, yl, yo⟩ := i2.rg; obtain ⟨⟨y0, cy⟩, fy⟩ := yo.has yl j (by omega); have I2 := Hid.intro i2; clear yo i2)
        all_goals (
          go_wp2_with fail
          go_meet
          first | exact Hid.intro (I2.out.put g j _ (.inl ⟨rfl, by omega⟩)) | exact Hid.intro (I2.out.put g j _ (.inl ⟨rfl, by omega⟩)).drew)
      case rest =>
        clear HI
        have m2 : wc.cell? ⟨M, 2, none⟩ = some (.slice (some ⟨k, 0, none⟩) 3 3) := heap_cell hcut.out.box 2
        obtain ⟨xs, xl, xo⟩ := hcut.out.rk
        obtain ⟨⟨x0, cg⟩, fg⟩ := xo.has xl j (by omega)
        clear xo
        go_wp2_with fail
        go_region_with (go_at_call 44; refine (pick_is (p := p + (80 * j + 40)) (M := M) (R := R) (g := g) (h := h) (k := k) (w0 := w) (by first | exact hcut.out.drew.le (by omega) | exact hcut.out.le (by omega)) (by omega) n hn hn').mono ?_; rintro e w2 ⟨x, a1, a2, rfl, i2⟩; have m2 : w2.cell? ⟨M, 2, none⟩ = some (.slice (some ⟨k, 0, none⟩) 3 3) := heap_cell i2.box 2; obtain ⟨ys, yl, yo⟩ := i2.rk; obtain ⟨⟨y0, cy⟩, fy⟩ := yo.has yl j (by omega); have I2 := Hid.intro i2; clear yo i2)
        all_goals (
          go_wp2
          go_roundw)
        all_goals first | exact ⟨j + 1, by omega, by go_num, Hid.intro ((I2.out.put k j _ (.inr (.inr ⟨rfl, by omega⟩))).le (by omega))⟩ | exact ⟨j + 1, by omega, by go_num, Hid.intro ((I2.out.put k j _ (.inr (.inr ⟨rfl, by omega⟩))).drew.le (by omega))⟩ | (simp [intOf]; omega)
    · have hjx : ¬ (j : Int) < 3 := by omega
      have HJ := Hid.intro hj
      clear hlt hj
      go_wp2
      go_loopw [7] (fun i wr2 => ∃ j : Nat, j ≤ 4 ∧ i = .int .i64 j ∧ Hid (IS B M R g h k (p + 240 + 40 * j) w wr2)) (fun i _ => 4 - (intOf i).toNat)
      case atStart => exact ⟨0, by omega, rfl, Hid.intro (HI.out.le (by have := HJ.out; omega))⟩
      case round =>
        clear HI
        obtain ⟨y, hj4, rfl, HI⟩ := hrel
        by_cases hlt : y < 4
        · have hj0 : (0 : Int) ≤ (y : Int) := by omega
          have hj1 : (y : Int) ≤ 3 := by omega
          have hj2 : (y : Int) < 4 := by omega
          have m1 : wr.cell? ⟨M, 1, none⟩ = some (.slice (some ⟨h, 0, none⟩) 4 4) := heap_cell HI.out.box 1
          obtain ⟨xs, xl, xo⟩ := HI.out.rh
          obtain ⟨⟨x0, cg⟩, fg⟩ := xo.has xl y (by omega)
          clear xo
          go_wp2_with fail
          go_region_with (go_at_call 44; refine (pick_is (p := p + (240 + 40 * y)) (M := M) (R := R) (g := g) (h := h) (k := k) (w0 := w) (by first | exact HI.out.drew.le (by omega) | exact HI.out.le (by omega)) (by omega) n hn hn').mono ?_; rintro e w2 ⟨x, a1, a2, rfl, i2⟩; have m1 : w2.cell? ⟨M, 1, none⟩ = some (.slice (some ⟨h, 0, none⟩) 4 4) := heap_cell i2.box 1; obtain ⟨ys, yl, yo⟩ := i2.rh; obtain ⟨⟨y0, cy⟩, fy⟩ := yo.has yl y (by omega); have I2 := Hid.intro i2; clear yo i2)
          all_goals (
            go_wp2
            go_roundw)
          all_goals first | exact ⟨y + 1, by omega, by go_num, Hid.intro ((I2.out.put h y _ (.inr (.inl ⟨rfl, by omega⟩))).le (by omega))⟩ | exact ⟨y + 1, by omega, by go_num, Hid.intro ((I2.out.put h y _ (.inr (.inl ⟨rfl, by omega⟩))).drew.le (by omega))⟩ | (simp [intOf]; omega)
        · have hj3 : ¬ (y : Int) ≤ 3 := by omega
          obtain ⟨q, q1, q2⟩ := HI.out.rd
          have bB := HI.out.box
          have bR := HI.out.res
          obtain ⟨xs, xl, xo⟩ := HI.out.rg
          obtain ⟨ys, yl, yo⟩ := HI.out.rh
          obtain ⟨zs, zl, zo⟩ := HI.out.rk
          have kp := HI.out.keep
          have o0 : wr.cell? ⟨M, 0, none⟩ = some (.slice (some ⟨g, 0, none⟩) 3 3) := heap_cell bB 0
          have o1 : wr.cell? ⟨M, 1, none⟩ = some (.slice (some ⟨h, 0, none⟩) 4 4) := heap_cell bB 1
          have o2 : wr.cell? ⟨M, 2, none⟩ = some (.slice (some ⟨k, 0, none⟩) 3 3) := heap_cell bB 2
          have u0 : wr.cell? ⟨R, 0, none⟩ = some (.slice none 0 0) := heap_cell bR 0
          have u1 : wr.cell? ⟨R, 1, none⟩ = some (.slice none 0 0) := heap_cell bR 1
          have u2 : wr.cell? ⟨R, 2, none⟩ = some (.slice none 0 0) := heap_cell bR 2
          have f0 := heap_free bR 0
          have f1 := heap_free bR 1
          have f2 := heap_free bR 2
          have hf := heap_set (heap_set (heap_set bR 0 (.slice (some ⟨g, 0, none⟩) 3 3)) 1 (.slice (some ⟨h, 0, none⟩) 4 4)) 2 (.slice (some ⟨k, 0, none⟩) 3 3)
          have r0 := heap_cell hf 0
          have r1 := heap_cell hf 1
          have r2 := heap_cell hf 2
          simp at r0 r1 r2
          have hne : ∀ b, b ≠ R → (((wr.setCell ⟨R, 0, none⟩ (.slice (some ⟨g, 0, none⟩) 3 3)).setCell ⟨R, 1, none⟩ (.slice (some ⟨h, 0, none⟩) 4 4)).setCell ⟨R, 2, none⟩ (.slice (some ⟨k, 0, none⟩) 3 3)).heap[b]? = wr.heap[b]? := fun b h1 => (heap_set_ne h1).trans ((heap_set_ne h1).trans (heap_set_ne h1))
          have HP : Hid (InOwn w.heap.size (((wr.setCell ⟨R, 0, none⟩ (.slice (some ⟨g, 0, none⟩) 3 3)).setCell ⟨R, 1, none⟩ (.slice (some ⟨h, 0, none⟩) 4 4)).setCell ⟨R, 2, none⟩ (.slice (some ⟨k, 0, none⟩) 3 3)) ⟨xs, ys, zs⟩ g h k) := ⟨by simp only [xl]; exact xo.of (hne _ (by omega)), by simp only [yl]; exact yo.of (hne _ (by omega)), by simp only [zl]; exact zo.of (hne _ (by omega)), ⟨by omega, by omega, by omega⟩, by omega, by omega, by omega⟩
          have HD : Hid (Rd (((wr.setCell ⟨R, 0, none⟩ (.slice (some ⟨g, 0, none⟩) 3 3)).setCell ⟨R, 1, none⟩ (.slice (some ⟨h, 0, none⟩) 4 4)).setCell ⟨R, 2, none⟩ (.slice (some ⟨k, 0, none⟩) 3 3)) B q) := ((q2.other (x := ⟨R, 0, none⟩) (by simp; omega) _).other (x := ⟨R, 1, none⟩) (by simp; omega) _).other (x := ⟨R, 2, none⟩) (by simp; omega) _
          have HK : Hid (Keep B w (((wr.setCell ⟨R, 0, none⟩ (.slice (some ⟨g, 0, none⟩) 3 3)).setCell ⟨R, 1, none⟩ (.slice (some ⟨h, 0, none⟩) 4 4)).setCell ⟨R, 2, none⟩ (.slice (some ⟨k, 0, none⟩) 3 3))) := ((kp.setCell (p := ⟨R, 0, none⟩) (.inr (by simp; omega)) _).setCell (p := ⟨R, 1, none⟩) (.inr (by simp; omega)) _).setCell (p := ⟨R, 2, none⟩) (.inr (by simp; omega)) _
          have nMR : M ≠ R := by omega
          clear hf hne xo yo zo bB bR HI q2 kp
          go_wp2
          refine bodyPost_ret (v := .agg #[.slice (some ⟨g, 0, none⟩) 3 3, .slice (some ⟨h, 0, none⟩) 4 4, .slice (some ⟨k, 0, none⟩) 3 3]) (by simp [results, Try.results43, go_sem, r0, r1, r2]) rfl ⟨_, rfl, ⟨xs, ys, zs⟩, g, h, k, q, by simp only [inV, xl, yl, zl], xl, yl, zl, HP.out, HD.out, by omega, HK.out⟩

end Go.Proofs.Ytgcpjddnnamdhaa
