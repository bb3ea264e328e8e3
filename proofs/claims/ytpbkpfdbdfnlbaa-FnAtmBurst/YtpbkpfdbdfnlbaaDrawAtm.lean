/-
  spec's l20Atm: whatever the code, a store of 63 to 65 words and 5 or 6 that hold, in memory of its own; nothing that was there has turned but the reader.
-/
import Derived.Test.YtpbkpfdbdfnlbaaDrawMem
import Derived.Test.YtpbkpfdbdfnlbaaAtmN
import Derived.Test.YtpbkpfdbdfnlbaaPureT
namespace Go.Proofs.Ytpbkpfdbdfnlbaa
open Go.RowKit
set_option linter.unusedSimpArgs false
set_option linter.unusedVariables false

/-- a state in the making: the reader, the state's own variable, the result's, who holds -/
structure AS (B S R h c p : Nat) (w0 w : World) : Prop where
  rd : ∃ q, q ≤ p ∧ Rd w B q
  keep : Keep B w0 w
  box : ∃ (b off cap : Nat) (xs : List Int), w.heap[S]? = some (.cells #[.slice (some ⟨b, off, none⟩) xs.length cap, .slice (some ⟨h, 0, none⟩) 6 c] 28 (0, 0)) ∧ IntsAt w (some ⟨b, off, none⟩) xs ∧ 63 ≤ xs.length ∧ xs.length ≤ 65 ∧ xs.length ≤ cap ∧ cap ≤ 9223372036854775807 ∧ w0.heap.size ≤ b ∧ b ≠ S ∧ b ≠ R ∧ b ≠ h
  res : w.heap[R]? = some (.cells #[.slice none 0 0, .slice none 0 0] 28 (0, 0))
  row : ∃ hs : List Int, hs.length = 6 ∧ ORow 3 1 w h c 6 (hs.map (Value.int .i64))
  ltB : B < w0.heap.size
  newS : w0.heap.size ≤ S
  newR : w0.heap.size ≤ R
  newh : w0.heap.size ≤ h
  neSR : S ≠ R
  neSh : S ≠ h
  neRh : R ≠ h
  c1 : 6 ≤ c
  c2 : c ≤ 9223372036854775807
theorem AS.le {B S R h c p p' : Nat} {w0 w : World} (a : AS B S R h c p w0 w) (hp : p ≤ p') : AS B S R h c p' w0 w :=
  { a with rd := by obtain ⟨q, h1, h2⟩ := a.rd; exact ⟨q, by omega, h2⟩ }
theorem AS.step {B S R h c p q : Nat} {w0 w w' : World} (a : AS B S R h c p w0 w) (hk : Keep B w w') (hr : Rd w' B q) (hq : q ≤ p + 40) : AS B S R h c (p + 40) w0 w' := by
  have hB := a.ltB
  have hS := a.newS
  have hR := a.newR
  have hh := a.newh
  obtain ⟨b, off, cap, xs, b1, b2, b3⟩ := a.box
  obtain ⟨hs, r1, r2⟩ := a.row
  have hb := b3.2.2.2.2.1
  exact { a with
    rd := ⟨q, hq, hr⟩
    keep := a.keep.trans hk
    box := ⟨b, off, cap, xs, (hk.block S (heap_lt b1) (by omega)).trans b1, b2.of hk.size (fun b' off' e hlt => by cases e; exact hk.block b hlt (by omega)), b3⟩
    res := (hk.block R (heap_lt a.res) (by omega)).trans a.res
    row := ⟨hs, r1, r2.of (hk.block h r2.lt (by omega))⟩ }
theorem AS.alloc {B S R h c p : Nat} {w0 w : World} (a : AS B S R h c p w0 w) (o : Obj) : AS B S R h c (p + 40) w0 (w.alloc o) := by
  obtain ⟨q, h1, h2⟩ := a.rd
  exact a.step ((Keep.refl B w).alloc o) (h2.alloc o) (by omega)
theorem AS.drew {B S R h c p : Nat} {w0 w : World} (a : AS B S R h c p w0 w) : AS B S R h c p w0 w.drew :=
  ⟨a.rd, a.keep.drew, a.box, a.res, a.row, a.ltB, a.newS, a.newR, a.newh, a.neSR, a.neSh, a.neRh, a.c1, a.c2⟩
theorem AS.store {B S R h c p : Nat} {w0 w : World} (a : AS B S R h c p w0 w) (j : Nat) (hj : j < 6) (v : Int) : AS B S R h c p w0 (w.setCell ⟨h, j, none⟩ (.int .i64 v)) := by
  obtain ⟨q, hq, hr⟩ := a.rd
  obtain ⟨b, off, cap, xs, b1, b2, b3⟩ := a.box
  obtain ⟨hs, r1, r2⟩ := a.row
  have hB := a.ltB
  have hh := a.newh
  have hb := b3.2.2.2.2.2.2.2
  exact { a with
    rd := ⟨q, hq, hr.other (x := ⟨h, j, none⟩) (by simp; omega) _⟩
    keep := a.keep.setCell (p := ⟨h, j, none⟩) (.inr a.newh) _
    box := ⟨b, off, cap, xs, (heap_set_ne a.neSh).trans b1, b2.of (by simp) (fun b' off' e hlt => by cases e; exact heap_set_ne hb), b3⟩
    res := (heap_set_ne a.neRh).trans a.res
    row := ⟨hs.set j v, by simpa using r1, r2.set j hj v⟩ }
theorem AS.there {B S R h c p : Nat} {w0 w : World} (a : AS B S R h c p w0 w) (j : Nat) (hj : j < 6) : (∃ x, w.cell? ⟨h, j, none⟩ = some (.int .i64 x)) ∧ w.frozen? ⟨h, j, none⟩ = false := by
  obtain ⟨hs, hl, hO⟩ := a.row
  exact ⟨⟨hs[j]'(by omega), hO.get j _ (by simp [hl, hj])⟩, hO.free j⟩
theorem AS.holds {B S R h c p : Nat} {w0 w : World} (a : AS B S R h c p w0 w) : w.cell? ⟨S, 1, none⟩ = some (.slice (some ⟨h, 0, none⟩) 6 c) := by
  obtain ⟨b, off, cap, xs, b1, _⟩ := a.box
  exact heap_cell b1 1
/-- other words stored -/
theorem AS.mem {B S R h c p q b off cap : Nat} {w0 w w' : World} {xs : List Int} (a : AS B S R h c p w0 w) (hk : Keep B w w') (hr : Rd w' B q) (hi : IntsAt w' (some ⟨b, off, none⟩) xs) (h1 : 63 ≤ xs.length) (h2 : xs.length ≤ 65) (h3 : xs.length ≤ cap) (h4 : cap ≤ 9223372036854775807) (hb : w.heap.size ≤ b) :
    AS B S R h c q w0 (w'.setCell ⟨S, 0, none⟩ (.slice (some ⟨b, off, none⟩) xs.length cap)) ∧ (∃ u, w'.cell? ⟨S, 0, none⟩ = some u) ∧ w'.frozen? ⟨S, 0, none⟩ = false := by
  have hB := a.ltB
  have hS := a.newS
  have hR := a.newR
  have hh := a.newh
  obtain ⟨b0, off0, cap0, xs0, b1, b2, b3⟩ := a.box
  obtain ⟨hs, r1, r2⟩ := a.row
  have hlS := heap_lt b1
  have hlR := heap_lt a.res
  have hlh := r2.lt
  have hsw := a.keep.size
  have b1' := (hk.block S hlS (by omega)).trans b1
  refine ⟨{ a with
    rd := ⟨q, Nat.le_refl _, hr.other (x := ⟨S, 0, none⟩) (by simp; omega) _⟩
    keep := (a.keep.trans hk).setCell (p := ⟨S, 0, none⟩) (.inr a.newS) _
    box := ⟨b, off, cap, xs, (heap_set b1' 0 _).trans rfl, hi.of (by simp) (fun b' off' e hlt => by cases e; exact heap_set_ne (by omega)), h1, h2, h3, h4, by omega, by omega, by omega, by omega⟩
    res := (heap_set_ne (Ne.symm a.neSR)).trans ((hk.block R hlR (by omega)).trans a.res)
    row := ⟨hs, r1, (r2.of (hk.block h hlh (by omega))).of (heap_set_ne (Ne.symm a.neSh))⟩ }, ⟨_, heap_cell b1' 0⟩, heap_free b1' 0⟩

theorem pick_as {B S R h c p : Nat} {w0 w : World} (a : AS B S R h c p w0 w) (hp : p ≤ 80000) (n : Int) (hn : 1 ≤ n) (hn' : n ≤ 1000) :
    Calls Try.prog 24 #[.pointer (some ⟨B, 0, none⟩), .int .i64 n] w fun e w' => ∃ k : Int, 0 ≤ k ∧ k < n ∧ e = .returned (.int .i64 k) ∧ AS B S R h c (p + 40) w0 w' ∧ Keep B w w' := by
  obtain ⟨q, h1, h2⟩ := a.rd
  refine (pick_at h2 (by omega) n hn hn').mono ?_
  rintro e w' ⟨k, a1, a2, rfl, hr, hK⟩
  exact ⟨k, a1, a2, rfl, a.step hK hr (by omega), hK⟩
theorem odd_as {B S R h c p : Nat} {w0 w : World} (a : AS B S R h c p w0 w) (hp : p ≤ 80000) (n : Int) (hn : 1 ≤ n) (hn' : n ≤ 8999) :
    Calls Try.prog 26 #[.pointer (some ⟨B, 0, none⟩), .int .i64 n] w fun e w' => ∃ b : Bool, e = .returned (.bool b) ∧ AS B S R h c (p + 40) w0 w' := by
  obtain ⟨q, h1, h2⟩ := a.rd
  refine (odd_any B q n w h2 (by omega) hn hn').mono ?_
  rintro e w' ⟨k, rfl, hr, hK⟩
  exact ⟨k, rfl, a.step hK hr (by omega)⟩

/-- what l20Atm leaves -/
def AtmPost (B p : Nat) (w : World) (v : Value) (w' : World) : Prop := ∃ (s : Stt) (b off cw h oh ch p' : Nat), v = stV s (some ⟨b, off, none⟩) cw (some ⟨h, oh, none⟩) ch ∧ StAt w' s (some ⟨b, off, none⟩) cw (some ⟨h, oh, none⟩) ch ∧
      s.words.length ≤ 65 ∧ s.holds.length ≤ 6 ∧ Rd w' B p' ∧ p' ≤ p + 15000 ∧ Keep B w w' ∧ w.heap.size ≤ b ∧ w.heap.size ≤ h

def kHold (h : Nat) (k : Nat) : World → Value → Prop := fun _ v => v = .pointer (some ⟨h, k, none⟩)

/-- the end: the state is stored as the result; its own variable may have turned -/
theorem AS.post {B S R h c p p0 : Nat} {w0 w : World} (a : AS B S R h c p w0 w) (hp : p ≤ p0 + 15000) (o : Nat) (ho : o ≤ 1) (w1 : World) (hk : ∀ k, k ≠ S → w1.heap[k]? = w.heap[k]?) (hsz : w1.heap.size = w.heap.size) (hrd : ∀ q, Rd w B q → Rd w1 B q) (hkp : Keep B w0 w1) {b off cap n : Nat}
    (hb : w.heap[S]? = some (.cells #[.slice (some ⟨b, off, none⟩) n cap, .slice (some ⟨h, 0, none⟩) 6 c] 28 (0, 0))) :
    AtmPost B p0 w0 (.agg #[.slice (some ⟨b, off, none⟩) n cap, .slice (some ⟨h, o, none⟩) (6 - o) (c - o)]) ((w1.setCell ⟨R, 0, none⟩ (.slice (some ⟨b, off, none⟩) n cap)).setCell ⟨R, 1, none⟩ (.slice (some ⟨h, o, none⟩) (6 - o) (c - o))) := by
  obtain ⟨b', off', cap', xs, b1, b2, b3, b4, b5, b6, b7, b8, b9, b10⟩ := a.box
  rw [b1] at hb
  cases hb
  obtain ⟨hs, r1, r2⟩ := a.row
  obtain ⟨q, hq, hr⟩ := a.rd
  have hB := a.ltB
  have hR := a.newR
  have c1 := a.c1
  have c2 := a.c2
  have hi : IntsAt w (some ⟨h, 0, none⟩) hs := by rw [← r1] at r2; exact r2.ints
  have hd := hi.drop o
  have hlen : (hs.drop o).length = 6 - o := by simp [r1]
  refine ⟨⟨xs, hs.drop o⟩, b, off, cap, h, o, c - o, q, by unfold stV; rw [hlen], ⟨?_, ?_, b5, b6, by simp only; omega, by omega⟩, b4, by simp only; omega, ?_, by omega, ?_, b7, a.newh⟩
  · exact b2.of (by simp [hsz]) (fun b' off' e hlt => by cases e; exact (heap_set_ne b9).trans ((heap_set_ne b9).trans (hk _ b8)))
  · simp only [Nat.zero_add] at hd
    exact hd.of (by simp [hsz]) (fun b' off' e hlt => by cases e; exact (heap_set_ne (Ne.symm a.neRh)).trans ((heap_set_ne (Ne.symm a.neRh)).trans (hk _ (Ne.symm a.neSh))))
  · exact ((hrd q hr).other (x := ⟨R, 0, none⟩) (by simp; omega) _).other (x := ⟨R, 1, none⟩) (by simp; omega) _
  · exact (hkp.setCell (p := ⟨R, 0, none⟩) (.inr a.newR) _).setCell (p := ⟨R, 1, none⟩) (.inr a.newR) _

set_option maxRecDepth 100000 in
set_option maxHeartbeats 2000000 in
theorem l20Atm_any (B p : Nat) (n : Int) (w : World) (h : Rd w B p) (hp : p ≤ 30000) (hn : 1 ≤ n) (hn' : n ≤ 8999) :
    Calls Try.prog 23 #[.pointer (some ⟨B, 0, none⟩), .int .i64 n] w fun e w' => ∃ v, e = .returned v ∧ AtmPost B p w v w' := by
  have hB := h.lt
  go_enter Try.func23, Try.ntmps23
  go_wp2_with fail
  refine (spec_AtmNew _).mono ?_
  rintro e w1 ⟨g, hh, c, rfl, hO1, hP1, hc1, hc2, hg1, hh1, hne1, hb1⟩
  have hs1 := hb1.size
  simp at hs1 hg1 hh1
  have hR1 : w1.heap[w.heap.size]? = some (.cells #[.slice none 0 0, .slice none 0 0] 28 (0, 0)) := (hb1.block w.heap.size (by simp)).trans (nw_at _ rfl)
  have hr1 : Rd w1 B p := (h.alloc _).below hb1
  have hk1 : Keep B w w1 := ((Keep.refl B w).alloc _).trans (Keep.of_below hb1)
  have hl1 := hO1.lt
  have hm1 := hP1.lt
  clear hb1
  go_wp2_with fail
  obtain ⟨W0, hW0⟩ : ∃ W0, w1.alloc (.cells #[.slice (some ⟨g, 0, none⟩) 64 64, .slice (some ⟨hh, 0, none⟩) 6 c] 28) = W0 := ⟨_, rfl⟩
  have hx : Gr w1 W0 := by rw [← hW0]; exact below_nw _ _
  have hr0 : Rd W0 B p := by rw [← hW0]; exact hr1.alloc _
  have has : AS B w1.heap.size w.heap.size hh c p w W0 := by
    refine ⟨⟨p, Nat.le_refl _, hr0⟩, hk1.trans (Keep.of_below hx), ⟨g, 0, 64, noughts 64, ?_, ?_, by simp [noughts], by simp [noughts], by simp [noughts], by omega, by omega, by omega, by omega, hne1⟩, (hx.block _ (by omega)).trans hR1, ⟨freeH 6, by simp [freeH], hP1.gr hx⟩, hB, by omega, Nat.le_refl _, by omega, by omega, by omega, by omega, hc1, hc2⟩
    · rw [← hW0]; simpa [noughts] using nw_at (w := w1) (n := w1.heap.size) (.cells #[.slice (some ⟨g, 0, none⟩) 64 64, .slice (some ⟨hh, 0, none⟩) 6 c] 28) rfl
    · have := hO1.gr hx
      rw [show (64 : Nat) = (noughts 64).length by simp [noughts]] at this
      exact this.ints
  rw [hW0]
  obtain ⟨S, hS⟩ : ∃ S, S = w1.heap.size := ⟨_, rfl⟩
  obtain ⟨R, hR⟩ : ∃ R, R = w.heap.size := ⟨_, rfl⟩
  have hRw : w.heap.size ≤ R := by omega
  rw [← hS, ← hR] at has
  rw [← hS, ← hR]
  clear hW0 hx hr1 hk1 hO1 hP1 hR1 hS hR hs1 hg1 hh1 hl1 hm1 hne1
  refine (l20Mem_any B p 99999 W0 hr0 (by omega) (by omega) (.inr (by omega))).mono ?_
  rintro e w2 ⟨v, rfl, b, off, cap, xs, p', rfl, hi, x1, x2, x3, x4, hr2, hp', hK2, hbn⟩
  obtain ⟨has2, ⟨u, cu⟩, fu⟩ := has.mem hK2 hr2 hi x1 x2 x3 x4 hbn
  clear hi hr2 hK2 has hr0
  go_wp2_with fail
  generalize w2.setCell ⟨S, 0, none⟩ (.slice (some ⟨b, off, none⟩) xs.length cap) = W2 at has2 ⊢
  clear cu fu hbn x1 x2 x3 x4
  go_loopw [6] (fun i wr => ∃ j : Nat, j ≤ 6 ∧ i = .int .i64 j ∧ AS B S R hh c (p' + 500 * j) w wr) (fun i _ => 6 - (intOf i).toNat)
  case atStart => exact ⟨0, by omega, rfl, has2.le (by omega)⟩
  case round =>
    clear has2
    obtain ⟨j, hj, rfl, has⟩ := hrel
    have cS1 := has.holds
    by_cases hlt : j < 6
    · have hj0 : (0 : Int) ≤ (j : Int) := by omega
      have hj1 : (j : Int) < 6 := by omega
      obtain ⟨P, hP⟩ : ∃ P, P = p' + 500 * j := ⟨_, rfl⟩
      rw [← hP] at has
      have hPb : P ≤ 60000 := by omega
      have hhl : hh < wr.heap.size := by obtain ⟨_, _, r⟩ := has.row; exact r.lt
      have hlB : B < wr.heap.size := by have := has.keep.size; omega
      go_wp2_with fail
      refine wp_region_typed (by kernel_rfl) (Up wr.heap.size) (fun k W => AS B S R hh c (P + 40 * k) w W ∧ wr.heap.size ≤ W.heap.size)
        (tab [(18, kIs (.pointer (some ⟨S, 1, none⟩))), (19, kIs (.slice (some ⟨hh, 0, none⟩) 6 c)), (20, kIs (.int .i64 (j : Int))), (21, kRow wr.heap.size 5 (-1) 32), (22, kIs (.pointer (some ⟨B, 0, none⟩))), (23, kInt 0 4), (24, kCell wr.heap.size (-1) 32), (25, kInt (-1) 32), (26, kHold hh j)])
        [18, 19, 20, 21, 22, 23, 24, 25, 26] (by kernel_rfl) (by kernel_rfl) ?_ ?_ ?_ ?_
      · refine tab_stable ?_
        intro x hx
        simp at hx
        rcases hx with rfl | rfl | rfl | rfl | rfl | rfl | rfl | rfl | rfl
        all_goals first | exact stable_is _ _ | exact stable_int _ _ _ | exact stable_row _ _ _ _ | exact stable_cell _ _ _ | exact fun _ _ _ _ h => h
      · exact ⟨has.drew, Nat.le_refl _⟩
      · refine ops_cons (gd rfl <| tx_pure rfl rfl (fun k W h => ⟨h.1.le (by omega), h.2⟩) (Up.refl _) (fun i ρ W hat hW => ?_)) ?_
        · have e2 := hat.out 5 (by kernel_rfl)
          simp [Act.eval] at e2
          simp only [execOp, e2]; go_simp
        refine ops_cons (gd rfl <| tx_pure rfl rfl (fun k W h => ⟨h.1.le (by omega), h.2⟩) (Up.refl _) (fun i ρ W hat hW => ?_)) ?_
        · have e2 : ρ (.tmp 18) = _ := hat.dep 18 (by kernel_rfl)
          have e1 := hW.1.holds
          simp only [execOp, e2]; go_simp
        refine ops_cons (gd rfl <| ty_move_out (.inl rfl) rfl (by kernel_rfl) rfl (fun k W h => ⟨h.1.le (by omega), h.2⟩) (Up.refl _)) ?_
        refine ops_cons (gd rfl <| ty_build rfl rfl (fun _ _ o h => ⟨(h.1.alloc o).le (by omega), by have := h.2; simp; omega⟩) (fun _ _ h => h.2) (fun ρ w hc hd => ?_)) ?_
        · exact ⟨[-1, 0, 1, 16, 32], rfl, by simp, by simp only [execOp, hc]; go_simp⟩
        refine ops_cons (gd rfl <| ty_move_out (.inl rfl) rfl (by kernel_rfl) rfl (fun k W h => ⟨h.1.le (by omega), h.2⟩) (Up.refl _)) ?_
        refine ops_cons (gd rfl <| tx_call rfl (fun i ρ W hi hat hW => ?_)) ?_
        · have e2 : ρ (.tmp 22) = _ := hat.dep 22 (by kernel_rfl)
          have hf := hat.fn
          have hcn := hat.con
          simp at hi
          refine ⟨24, #[.pointer (some ⟨B, 0, none⟩), .int .i64 5], by simp only [execOp]; go_simp, (pick_as hW.1 (by omega) 5 (by omega) (by omega)).mono ?_⟩
          rintro e W' ⟨x, x0, x1, rfl, hm, hK⟩
          exact ⟨_, rfl, ⟨hm.le (by omega), Nat.le_trans hW.2 hK.size⟩, Up.of_keep hK hlB, ⟨x, rfl, x0, by omega⟩⟩
        refine ops_cons (gd rfl <| ty_index rfl rfl (by kernel_rfl) (by kernel_rfl) rfl rfl (by decide) (by decide) rfl (fun k W h => ⟨h.1.le (by omega), h.2⟩)) ?_
        refine ops_cons (gd rfl <| ty_load rfl rfl (by kernel_rfl) rfl rfl (fun k W h => ⟨h.1.le (by omega), h.2⟩)) ?_
        refine ops_cons (gd rfl <| tx_val rfl (fun i ρ W hi hat hW => ?_)) ?_
        · have e1 : ρ (.tmp 19) = _ := hat.dep 19 (by kernel_rfl)
          have e2 : ρ (.tmp 20) = _ := hat.dep 20 (by kernel_rfl)
          exact ⟨.pointer (some ⟨hh, j, none⟩), W, by simp only [execOp, e1, e2]; go_simp, ⟨hW.1.le (by omega), hW.2⟩, Up.refl _ _, rfl⟩
        refine ops_cons (gd rfl <| tx_skip rfl (fun i ρ W hi hat hW => ?_)) ?_
        · have ec : ρ (.tmp 26) = .pointer (some ⟨hh, j, none⟩) := hat.dep 26 (by kernel_rfl)
          obtain ⟨x, ex, lx, ux⟩ : kInt (-1) 32 W (ρ (.tmp 25)) := hat.dep 25 (by kernel_rfl)
          obtain ⟨⟨y, hy⟩, hf⟩ := hW.1.there j hlt
          exact ⟨W.setCell ⟨hh, j, none⟩ (.int .i64 x), by simp only [execOp, ec, ex]; go_simp, ⟨(hW.1.store j hlt x).le (by omega), by simpa using hW.2⟩, Up.setCell (by simpa using hhl) _⟩
        exact ops_nil
      · intro f W hW0 hf
        have hW := hW0.1
        simp at hW
        have e6 : True := trivial
        clear hf hW0 has
        simp only [fill]
        go_simp
        go_wp2
        go_roundw
        case rel => exact ⟨j + 1, by omega, by go_num, hW.le (by omega)⟩
        case measure => simp [intOf]; omega
    · have hje : j = 6 := by omega
      subst hje
      obtain ⟨P, hP⟩ : ∃ P, P = p' + 500 * 6 := ⟨_, rfl⟩
      rw [← hP] at has
      have hPb : P ≤ p + 8000 := by omega
      go_wp2_with fail
      refine (odd_as has (by omega) n hn hn').mono ?_
      rintro e w5 ⟨bb, rfl, has5⟩
      clear has cS1
      cases bb
      · obtain ⟨b9, off9, cap9, xs9, hb9, _⟩ := has5.box
        have s0 : w5.cell? ⟨S, 0, none⟩ = some (.slice (some ⟨b9, off9, none⟩) xs9.length cap9) := heap_cell hb9 0
        have s1 : w5.cell? ⟨S, 1, none⟩ = some (.slice (some ⟨hh, 0, none⟩) 6 c) := heap_cell hb9 1
        have r0 : w5.cell? ⟨R, 0, none⟩ = some (.slice none 0 0) := heap_cell has5.res 0
        have r1 : w5.cell? ⟨R, 1, none⟩ = some (.slice none 0 0) := heap_cell has5.res 1
        have f0 := heap_free has5.res 0
        have f1 := heap_free has5.res 1
        have HP := Hid.intro (has5.post (p0 := p) (by omega) 0 (by omega) w5 (fun _ _ => rfl) rfl (fun _ h => h) has5.keep hb9)
        have hR2 := heap_set (heap_set has5.res 0 (.slice (some ⟨b9, off9, none⟩) xs9.length cap9)) 1 (.slice (some ⟨hh, 0, none⟩) 6 c)
        have z0 := heap_cell hR2 0
        have z1 := heap_cell hR2 1
        simp at z0 z1
        clear hb9 hR2 has5
        go_wp2
        refine bodyPost_ret (v := .agg #[.slice (some ⟨b9, off9, none⟩) xs9.length cap9, .slice (some ⟨hh, 0, none⟩) 6 c]) (by simp [results, Try.results23, go_sem, z0, z1]) rfl ⟨_, rfl, HP.out⟩
      · go_wp2_with fail
        refine (pick_as has5 (by omega) 3 (by omega) (by omega)).mono ?_
        rintro e w6 ⟨q, hq0, hq1, rfl, has6, _⟩
        clear has5
        have hq : q = 0 ∨ q = 1 ∨ q = 2 := by omega
        rcases hq with rfl | rfl | rfl
        · obtain ⟨q6, hq6, hr6⟩ := has6.rd
          go_wp2_with fail
          refine (l20Mem_any B q6 1 w6 hr6 (by omega) (by omega) (.inl (by omega))).mono ?_
          rintro e w7 ⟨v, rfl, b7, off7, cap7, xs7, p7, rfl, hi, x1, x2, x3, x4, hr7, hp7, hK7, hbn⟩
          obtain ⟨has7, ⟨u, cu⟩, fu⟩ := has6.mem hK7 hr7 hi x1 x2 x3 x4 hbn
          obtain ⟨V, hV⟩ : ∃ V, w7.setCell ⟨S, 0, none⟩ (.slice (some ⟨b7, off7, none⟩) xs7.length cap7) = V := ⟨_, rfl⟩
          have hV' := Hid.intro hV
          rw [hV] at has7
          have hp7b : p7 ≤ p + 15000 := by omega
          obtain ⟨b9, off9, cap9, xs9, hb9, _⟩ := has7.box
          have hb9' := hb9
          rw [← hV] at hb9'
          have s0 := (heap_cell hb9' 0).trans rfl
          have s1 := (heap_cell hb9' 1).trans rfl
          have hres := has7.res
          rw [← hV] at hres
          have r0 := (heap_cell hres 0).trans rfl
          have r1 := (heap_cell hres 1).trans rfl
          have f0 := heap_free hres 0
          have f1 := heap_free hres 1
          have HP := Hid.intro (has7.post (p0 := p) (by omega) 0 (by omega) V (fun _ _ => rfl) rfl (fun _ h => h) has7.keep hb9)
          rw [← hV] at HP
          have hR2 := heap_set (heap_set hres 0 (.slice (some ⟨b9, off9, none⟩) xs9.length cap9)) 1 (.slice (some ⟨hh, 0, none⟩) 6 c)
          have z0 := heap_cell hR2 0
          have z1 := heap_cell hR2 1
          simp at z0 z1
          clear hb9 hb9' hR2 has7 has6 hi hr7 hK7 hV hres
          go_wp2
          refine bodyPost_ret (v := .agg #[.slice (some ⟨b9, off9, none⟩) xs9.length cap9, .slice (some ⟨hh, 0, none⟩) 6 c]) (by simp [results, Try.results23, go_sem, z0, z1]) rfl ⟨_, rfl, HP.out⟩
        · obtain ⟨b9, off9, cap9, xs9, hb9, _⟩ := has6.box
          have hc6 := has6.c1
          have hBw := has6.ltB
          have hSw := has6.newS
          obtain ⟨V, hV⟩ : ∃ V, w6.setCell ⟨S, 1, none⟩ (.slice (some ⟨hh, 1, none⟩) 5 (c - 1)) = V := ⟨_, rfl⟩
          have hbV : V.heap[S]? = some (.cells #[.slice (some ⟨b9, off9, none⟩) xs9.length cap9, .slice (some ⟨hh, 1, none⟩) 5 (c - 1)] 28 (0, 0)) := by rw [← hV]; exact (heap_set hb9 1 _).trans rfl
          have hres : V.heap[R]? = some (.cells #[.slice none 0 0, .slice none 0 0] 28 (0, 0)) := by rw [← hV]; exact (heap_set_ne (Ne.symm has6.neSR)).trans has6.res
          have HP := Hid.intro (has6.post (p0 := p) (by omega) 1 (by omega) V (fun k hk => by rw [← hV]; exact heap_set_ne hk) (by rw [← hV]; simp) (fun q h => by rw [← hV]; exact h.other (x := ⟨S, 1, none⟩) (by simp; omega) _) (by rw [← hV]; exact has6.keep.setCell (p := ⟨S, 1, none⟩) (.inr has6.newS) _) hb9)
          simp only [Nat.reduceSub] at HP
          have s1 : w6.cell? ⟨S, 1, none⟩ = some (.slice (some ⟨hh, 0, none⟩) 6 c) := heap_cell hb9 1
          have fs1 := heap_free hb9 1
          rw [← hV] at hbV hres HP
          have s0 := (heap_cell hbV 0).trans rfl
          have s2 := (heap_cell hbV 1).trans rfl
          have r0 := (heap_cell hres 0).trans rfl
          have r1 := (heap_cell hres 1).trans rfl
          have f0 := heap_free hres 0
          have f1 := heap_free hres 1
          have hR2 := heap_set (heap_set hres 0 (.slice (some ⟨b9, off9, none⟩) xs9.length cap9)) 1 (.slice (some ⟨hh, 1, none⟩) 5 (c - 1))
          have z0 := heap_cell hR2 0
          have z1 := heap_cell hR2 1
          simp at z0 z1
          clear hb9 hbV hR2 has6 hV hres
          go_wp2
          refine bodyPost_ret (v := .agg #[.slice (some ⟨b9, off9, none⟩) xs9.length cap9, .slice (some ⟨hh, 1, none⟩) 5 (c - 1)]) (by simp [results, Try.results23, go_sem, z0, z1]) rfl ⟨_, rfl, HP.out⟩
        · have hhl : hh < w6.heap.size := by obtain ⟨_, _, r⟩ := has6.row; exact r.lt
          have hlB : B < w6.heap.size := by have := has6.keep.size; omega
          obtain ⟨P6, hP6⟩ : ∃ P6, P6 = P + 40 + 40 := ⟨_, rfl⟩
          rw [← hP6] at has6
          go_wp2_with fail
          refine wp_region_typed (by kernel_rfl) (Up w6.heap.size) (fun k W => AS B S R hh c (P6 + 40 * k) w W ∧ w6.heap.size ≤ W.heap.size)
            (tab [(32, kIs (.pointer (some ⟨S, 1, none⟩))), (33, kIs (.slice (some ⟨hh, 0, none⟩) 6 c)), (34, kRow w6.heap.size 2 (-2) 64), (35, kIs (.pointer (some ⟨B, 0, none⟩))), (36, kInt 0 1), (37, kCell w6.heap.size (-2) 64), (38, kInt (-2) 64), (39, kHold hh 0)])
            [32, 33, 34, 35, 36, 37, 38, 39] (by kernel_rfl) (by kernel_rfl) ?_ ?_ ?_ ?_
          · refine tab_stable ?_
            intro x hx
            simp at hx
            rcases hx with rfl | rfl | rfl | rfl | rfl | rfl | rfl | rfl
            all_goals first | exact stable_is _ _ | exact stable_int _ _ _ | exact stable_row _ _ _ _ | exact stable_cell _ _ _ | exact fun _ _ _ _ h => h
          · exact ⟨has6.drew, Nat.le_refl _⟩
          · refine ops_cons (gd rfl <| tx_pure rfl rfl (fun k W h => ⟨h.1.le (by omega), h.2⟩) (Up.refl _) (fun i ρ W hat hW => ?_)) ?_
            · have e2 := hat.out 5 (by kernel_rfl)
              simp [Act.eval] at e2
              simp only [execOp, e2]; go_simp
            refine ops_cons (gd rfl <| tx_pure rfl rfl (fun k W h => ⟨h.1.le (by omega), h.2⟩) (Up.refl _) (fun i ρ W hat hW => ?_)) ?_
            · have e2 : ρ (.tmp 32) = _ := hat.dep 32 (by kernel_rfl)
              have e1 := hW.1.holds
              simp only [execOp, e2]; go_simp
            refine ops_cons (gd rfl <| ty_build rfl rfl (fun _ _ o h => ⟨(h.1.alloc o).le (by omega), by have := h.2; simp; omega⟩) (fun _ _ h => h.2) (fun ρ w hc hd => ?_)) ?_
            · exact ⟨[-2, 64], rfl, by simp, by simp only [execOp, hc]; go_simp⟩
            refine ops_cons (gd rfl <| ty_move_out (.inl rfl) rfl (by kernel_rfl) rfl (fun k W h => ⟨h.1.le (by omega), h.2⟩) (Up.refl _)) ?_
            refine ops_cons (gd rfl <| tx_call rfl (fun i ρ W hi hat hW => ?_)) ?_
            · have e2 : ρ (.tmp 35) = _ := hat.dep 35 (by kernel_rfl)
              have hf := hat.fn
              have hcn := hat.con
              simp at hi
              refine ⟨24, #[.pointer (some ⟨B, 0, none⟩), .int .i64 2], by simp only [execOp]; go_simp, (pick_as hW.1 (by omega) 2 (by omega) (by omega)).mono ?_⟩
              rintro e W' ⟨x, x0, x1, rfl, hm, hK⟩
              exact ⟨_, rfl, ⟨hm.le (by omega), Nat.le_trans hW.2 hK.size⟩, Up.of_keep hK hlB, ⟨x, rfl, x0, by omega⟩⟩
            refine ops_cons (gd rfl <| ty_index rfl rfl (by kernel_rfl) (by kernel_rfl) rfl rfl (by decide) (by decide) rfl (fun k W h => ⟨h.1.le (by omega), h.2⟩)) ?_
            refine ops_cons (gd rfl <| ty_load rfl rfl (by kernel_rfl) rfl rfl (fun k W h => ⟨h.1.le (by omega), h.2⟩)) ?_
            refine ops_cons (gd rfl <| tx_val rfl (fun i ρ W hi hat hW => ?_)) ?_
            · have e1 : ρ (.tmp 33) = _ := hat.dep 33 (by kernel_rfl)
              exact ⟨.pointer (some ⟨hh, 0, none⟩), W, by simp only [execOp, e1, hat.con]; go_simp, ⟨hW.1.le (by omega), hW.2⟩, Up.refl _ _, rfl⟩
            refine ops_cons (gd rfl <| tx_skip rfl (fun i ρ W hi hat hW => ?_)) ?_
            · have ec : ρ (.tmp 39) = .pointer (some ⟨hh, 0, none⟩) := hat.dep 39 (by kernel_rfl)
              obtain ⟨x, ex, lx, ux⟩ : kInt (-2) 64 W (ρ (.tmp 38)) := hat.dep 38 (by kernel_rfl)
              obtain ⟨⟨y, hy⟩, hf⟩ := hW.1.there 0 (by omega)
              exact ⟨W.setCell ⟨hh, 0, none⟩ (.int .i64 x), by simp only [execOp, ec, ex]; go_simp, ⟨(hW.1.store 0 (by omega) x).le (by omega), by simpa using hW.2⟩, Up.setCell (by simpa using hhl) _⟩
            exact ops_nil
          · intro f W hW0 hf
            have hW := hW0.1
            simp at hW
            clear hf hW0 has6
            simp only [fill]
            obtain ⟨b9, off9, cap9, xs9, hb9, _⟩ := hW.box
            have s0 : W.cell? ⟨S, 0, none⟩ = some (.slice (some ⟨b9, off9, none⟩) xs9.length cap9) := heap_cell hb9 0
            have s1 : W.cell? ⟨S, 1, none⟩ = some (.slice (some ⟨hh, 0, none⟩) 6 c) := heap_cell hb9 1
            have r0 : W.cell? ⟨R, 0, none⟩ = some (.slice none 0 0) := heap_cell hW.res 0
            have r1 : W.cell? ⟨R, 1, none⟩ = some (.slice none 0 0) := heap_cell hW.res 1
            have f0 := heap_free hW.res 0
            have f1 := heap_free hW.res 1
            have HP := Hid.intro (hW.post (p0 := p) (by omega) 0 (by omega) W (fun _ _ => rfl) rfl (fun _ h => h) hW.keep hb9)
            have hR2 := heap_set (heap_set hW.res 0 (.slice (some ⟨b9, off9, none⟩) xs9.length cap9)) 1 (.slice (some ⟨hh, 0, none⟩) 6 c)
            have z0 := heap_cell hR2 0
            have z1 := heap_cell hR2 1
            simp at z0 z1
            clear hb9 hR2 hW
            go_simp
            go_wp2
            refine bodyPost_ret (v := .agg #[.slice (some ⟨b9, off9, none⟩) xs9.length cap9, .slice (some ⟨hh, 0, none⟩) 6 c]) (by simp [results, Try.results23, go_sem, z0, z1]) rfl ⟨_, rfl, HP.out⟩

end Go.Proofs.Ytpbkpfdbdfnlbaa
