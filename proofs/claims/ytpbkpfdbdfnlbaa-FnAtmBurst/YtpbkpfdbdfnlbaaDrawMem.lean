/-
  spec's l20Mem and DrawMemOk: whatever the code, a store of 63 to 65 words, in memory of its own; nothing that was there has turned but the reader.
-/
import Derived.Test.YtpbkpfdbdfnlbaaProg
import Derived.Test.YtpbkpfdbdfnlbaaDraw1
import Derived.Test.YtpbkpfdbdfnlbaaDrawWrd
import Derived.Test.YtpbkpfdbdfnlbaaMem
import Derived.Test.YtpbkpfdbdfnlbaaMarkG
import Derived.Test.YtpbkpfdbdfnlbaaOpsXM
namespace Go.Proofs.Ytpbkpfdbdfnlbaa
open Go.RowKit
set_option linter.unusedSimpArgs false
set_option linter.unusedVariables false

/-- a store in the making: the reader, the store's own variable, the result's, the words -/
structure MS (B M R g p : Nat) (w0 w : World) : Prop where
  rd : ∃ q, q ≤ p ∧ Rd w B q
  keep : Keep B w0 w
  box : w.cell? ⟨M, 0, none⟩ = some (.slice (some ⟨g, 0, none⟩) 64 64)
  boxf : w.frozen? ⟨M, 0, none⟩ = false
  res : w.cell? ⟨R, 0, none⟩ = some (.slice none 0 0)
  resf : w.frozen? ⟨R, 0, none⟩ = false
  row : ∃ xs : List Int, xs.length = 64 ∧ ORow 3 1 w g 64 64 (xs.map (Value.int .i64))
  hM : M < w.heap.size
  hR : R < w.heap.size
  neM : M ≠ B
  neR : R ≠ B
  neg : g ≠ B
  newM : w0.heap.size ≤ M
  newR : w0.heap.size ≤ R
  newg : w0.heap.size ≤ g
  neMg : M ≠ g
  neRg : R ≠ g
  neMR : M ≠ R
theorem MS.lt {B M R g p : Nat} {w0 w : World} (h : MS B M R g p w0 w) : g < w.heap.size := by obtain ⟨xs, _, hO⟩ := h.row; exact hO.lt
theorem MS.le {B M R g p p' : Nat} {w0 w : World} (h : MS B M R g p w0 w) (hp : p ≤ p') : MS B M R g p' w0 w :=
  { h with rd := by obtain ⟨q, h1, h2⟩ := h.rd; exact ⟨q, by omega, h2⟩ }
theorem MS.step {B M R g p q : Nat} {w0 w w' : World} (h : MS B M R g p w0 w) (hk : Keep B w w') (hr : Rd w' B q) (hq : q ≤ p + 40) : MS B M R g (p + 40) w0 w' :=
  { h with
    rd := ⟨q, hq, hr⟩
    keep := h.keep.trans hk
    box := (hk.cell (p := ⟨M, 0, none⟩) h.hM h.neM).trans h.box
    boxf := (hk.frozen (p := ⟨M, 0, none⟩) h.hM h.neM).trans h.boxf
    res := (hk.cell (p := ⟨R, 0, none⟩) h.hR h.neR).trans h.res
    resf := (hk.frozen (p := ⟨R, 0, none⟩) h.hR h.neR).trans h.resf
    row := by obtain ⟨xs, h1, h2⟩ := h.row; exact ⟨xs, h1, h2.of (hk.block g h2.lt h.neg)⟩
    hM := Nat.lt_of_lt_of_le h.hM hk.size
    hR := Nat.lt_of_lt_of_le h.hR hk.size }
theorem MS.alloc {B M R g p : Nat} {w0 w : World} (h : MS B M R g p w0 w) (o : Obj) : MS B M R g (p + 40) w0 (w.alloc o) := by
  obtain ⟨q, h1, h2⟩ := h.rd
  exact h.step ((Keep.refl B w).alloc o) (h2.alloc o) (by omega)
theorem MS.drew {B M R g p : Nat} {w0 w : World} (h : MS B M R g p w0 w) : MS B M R g p w0 w.drew :=
  ⟨h.rd, h.keep.drew, h.box, h.boxf, h.res, h.resf, h.row, h.hM, h.hR, h.neM, h.neR, h.neg, h.newM, h.newR, h.newg, h.neMg, h.neRg, h.neMR⟩
/-- a word stored -/
theorem MS.store {B M R g p : Nat} {w0 w : World} (h : MS B M R g p w0 w) (hB : B < w0.heap.size) (j : Nat) (hj : j < 64) (v : Int) : MS B M R g (p + 40) w0 (w.setCell ⟨g, j, none⟩ (.int .i64 v)) := by
  obtain ⟨q, hq, hr⟩ := h.rd
  obtain ⟨xs, hl, hO⟩ := h.row
  have hne : ∀ k, k ≠ g → (w.setCell ⟨g, j, none⟩ (.int .i64 v)).heap[k]? = w.heap[k]? := fun k hk => Below.heap_setCell _ _ _ _ (by simpa using hk)
  have hnew := h.newg
  exact { h with
    rd := ⟨q, by omega, hr.other (x := ⟨g, j, none⟩) (by simp; omega) _⟩
    keep := h.keep.setCell (p := ⟨g, j, none⟩) (.inr h.newg) _
    box := (World.cell?_of_block (w := w) (a := ⟨M, 0, none⟩) (hne M h.neMg)).trans h.box
    boxf := (World.frozen?_of_block (w := w) (a := ⟨M, 0, none⟩) (hne M h.neMg)).trans h.boxf
    res := (World.cell?_of_block (w := w) (a := ⟨R, 0, none⟩) (hne R h.neRg)).trans h.res
    resf := (World.frozen?_of_block (w := w) (a := ⟨R, 0, none⟩) (hne R h.neRg)).trans h.resf
    row := ⟨xs.set j v, by simpa using hl, hO.set j hj v⟩
    hM := by simpa using h.hM
    hR := by simpa using h.hR }
theorem MS.there {B M R g p : Nat} {w0 w : World} (h : MS B M R g p w0 w) (j : Nat) (hj : j < 64) : (∃ x, w.cell? ⟨g, j, none⟩ = some (.int .i64 x)) ∧ w.frozen? ⟨g, j, none⟩ = false := by
  obtain ⟨xs, hl, hO⟩ := h.row
  refine ⟨⟨xs[j]'(by omega), hO.get j _ (by simp [hl, hj])⟩, ?_⟩
  obtain ⟨cur, e1, _⟩ := hO
  simp [World.frozen?, e1]

def kCellOf (g : Nat) : World → Value → Prop := fun _ v => ∃ j, j < 64 ∧ v = .pointer (some ⟨g, j, none⟩)

theorem pick_ms {B M R g p : Nat} {w0 w : World} (h : MS B M R g p w0 w) (hp : p ≤ 80000) (n : Int) (hn : 1 ≤ n) (hn' : n ≤ 1000) :
    Calls Try.prog 24 #[.pointer (some ⟨B, 0, none⟩), .int .i64 n] w fun e w' => ∃ k : Int, 0 ≤ k ∧ k < n ∧ e = .returned (.int .i64 k) ∧ MS B M R g (p + 40) w0 w' ∧ Keep B w w' := by
  obtain ⟨q, h1, h2⟩ := h.rd
  refine (pick_at h2 (by omega) n hn hn').mono ?_
  rintro e w' ⟨k, a1, a2, rfl, hr, hK⟩
  exact ⟨k, a1, a2, rfl, h.step hK hr (by omega), hK⟩
theorem addr_ms {B M R g p : Nat} {w0 w : World} (h : MS B M R g p w0 w) (hp : p ≤ 80000) :
    Calls Try.prog 48 #[.pointer (some ⟨B, 0, none⟩)] w fun e w' => ∃ k : Int, 0 ≤ k ∧ k ≤ 63 ∧ e = .returned (.int .i64 k) ∧ MS B M R g (p + 40) w0 w' ∧ Keep B w w' := by
  obtain ⟨q, h1, h2⟩ := h.rd
  refine (addr_any B q w h2 (by omega)).mono ?_
  rintro e w' ⟨k, a1, a2, rfl, hr, hK⟩
  exact ⟨k, a1, a2, rfl, h.step hK hr (by omega), hK⟩

theorem Bytes.grow {w : World} {B B' : Nat} {a : Option Addr} {len : Nat} (h : Bytes w B a len) (hB : B ≤ B') : Bytes w B' a len := by
  rcases h with h | ⟨b, off, h1, h2, h3⟩
  · exact .inl h
  · exact .inr ⟨b, off, h1, by omega, h3⟩

theorem odd_big (B : Nat) (n : Int) (w : World) (hn : 9000 ≤ n) :
    Calls Try.prog 26 #[.pointer (some ⟨B, 0, none⟩), .int .i64 n] w fun e w' => e = .returned (.bool false) ∧ w' = w := by
  have hI : ¬ (n < 9000) := by omega
  go_enter Try.func26, Try.ntmps26
  go_wp2
  go_ret
  exact ⟨rfl, rfl⟩

theorem odd_ms {B M R g p : Nat} {w0 w : World} (h : MS B M R g p w0 w) (hp : p ≤ 80000) (n : Int) (hn : 1 ≤ n) (hn' : n ≤ 8999 ∨ 9000 ≤ n) :
    Calls Try.prog 26 #[.pointer (some ⟨B, 0, none⟩), .int .i64 n] w fun e w' => ∃ b : Bool, e = .returned (.bool b) ∧ MS B M R g (p + 40) w0 w' ∧ Keep B w w' := by
  obtain ⟨q, h1, h2⟩ := h.rd
  rcases hn' with hn' | hn'
  · refine (odd_any B q n w h2 (by omega) hn hn').mono ?_
    rintro e w' ⟨k, rfl, hr, hK⟩
    exact ⟨k, rfl, h.step hK hr (by omega), hK⟩
  · refine (odd_big B n w hn').mono ?_
    rintro e w' ⟨rfl, rfl⟩
    exact ⟨false, rfl, h.le (by omega), Keep.refl _ _⟩

/-- the words of a row, from some place on -/
theorem IntsAt.drop {w : World} {b off : Nat} {xs : List Int} (h : IntsAt w (some ⟨b, off, none⟩) xs) (k : Nat) : IntsAt w (some ⟨b, off + k, none⟩) (xs.drop k) := by
  rcases h with h | ⟨b', off', e, h2, h3⟩
  · left; simp [h]
  · cases e
    refine .inr ⟨b, off + k, rfl, h2, fun i hi => ?_⟩
    have hi' : k + i < xs.length := by simp at hi; omega
    have := h3 (k + i) hi'
    simpa [Nat.add_assoc] using this
theorem ORow.owns {w : World} {base g cap n : Nat} {cs : List Value} (h : ORow 3 1 w g cap n cs) (hb : base ≤ g) (hc : cap ≤ maxLen) : w.ownsRow base 3 1 (.slice (some ⟨g, 0, none⟩) n cap) n cs := by
  obtain ⟨cur, h1, h2, h3, h4, h5⟩ := h
  exact ⟨h4, .inr ⟨g, cap, cur, rfl, hb, h1, h3, hc, h2, h5⟩⟩

/-- what l20Mem leaves -/
def MemPost (B p : Nat) (w : World) (v : Value) (w' : World) : Prop := ∃ (b off cap : Nat) (xs : List Int) (p' : Nat), v = .agg #[.slice (some ⟨b, off, none⟩) xs.length cap] ∧ IntsAt w' (some ⟨b, off, none⟩) xs ∧
      63 ≤ xs.length ∧ xs.length ≤ 65 ∧ xs.length ≤ cap ∧ cap ≤ 9223372036854775807 ∧ Rd w' B p' ∧ p' ≤ p + 5000 ∧ Keep B w w' ∧ w.heap.size ≤ b

/-- two stores into variables of its own leave it so -/
theorem MemPost.store {B p : Nat} {w w' : World} {v u : Value} {x : Addr} (hB : B < w.heap.size) (h : MemPost B p w v w') (hx : w.heap.size ≤ x.block) (hne : ∀ b off cap n, v = .agg #[.slice (some ⟨b, off, none⟩) n cap] → x.block ≠ b) : MemPost B p w v (w'.setCell x u) := by
  obtain ⟨b, off, cap, xs, p', h1, h2, h3, h4, h5, h6, h7, h8, h9, h10⟩ := h
  refine ⟨b, off, cap, xs, p', h1, h2.of (by simp) (fun b' off' e hb' => ?_), h3, h4, h5, h6, h7.other (by omega) _, h8, h9.setCell (.inr hx) _, h10⟩
  cases e
  exact Below.heap_setCell _ _ _ _ (fun e => hne _ _ _ _ h1 e.symm)

theorem MS.post {B M R g p p0 : Nat} {w0 w : World} (h : MS B M R g p w0 w) (hp : p ≤ p0 + 5000) (k : Nat) (hk : k ≤ 1) : MemPost B p0 w0 (.agg #[.slice (some ⟨g, k, none⟩) (64 - k) (64 - k)]) w := by
  obtain ⟨q, hq, hr⟩ := h.rd
  obtain ⟨xs, hl, hO⟩ := h.row
  have hi : IntsAt w (some ⟨g, 0, none⟩) xs := by rw [← hl] at hO; exact hO.ints
  have hd := hi.drop k
  have hlen : (xs.drop k).length = 64 - k := by simp [hl]
  refine ⟨g, k, 64 - k, xs.drop k, q, by rw [hlen], by simpa using hd, by omega, by omega, by omega, by omega, hr, by omega, h.keep, h.newg⟩

theorem app_facts {B M R g p p0 g' cap' : Nat} {w w5 w6 : World} {xs : List Int} {o : Obj} (hB : B < w.heap.size) (h : MS B M R g p w w5) (hp : p ≤ p0 + 5000) (hx : xs.length = 64)
    (hgrow : (w5.alloc o).grownBy w6 (Value.slice (some ⟨g, 0, none⟩) 64 64).ownBlock) (hown : w6.ownsRow w.heap.size 3 1 (.slice (some ⟨g', 0, none⟩) (64 + 1) cap') (64 + 1) (xs.map (Value.int .i64) ++ [.int .i64 0]))
    (hat : (Value.slice (some ⟨g, 0, none⟩) 64 64).ownBlock = some g' ∨ g' = w5.heap.size + 1) :
    w6.cell? ⟨M, 0, none⟩ = some (.slice (some ⟨g, 0, none⟩) 64 64) ∧ w6.frozen? ⟨M, 0, none⟩ = false ∧
    (w6.setCell ⟨M, 0, none⟩ (.slice (some ⟨g', 0, none⟩) 65 cap')).cell? ⟨R, 0, none⟩ = some (.slice none 0 0) ∧ w6.frozen? ⟨R, 0, none⟩ = false ∧
    Hid (MemPost B p0 w (.agg #[.slice (some ⟨g', 0, none⟩) 65 cap']) ((w6.setCell ⟨M, 0, none⟩ (.slice (some ⟨g', 0, none⟩) 65 cap')).setCell ⟨R, 0, none⟩ (.slice (some ⟨g', 0, none⟩) 65 cap'))) := by
  have hob : (Value.slice (some ⟨g, 0, none⟩) 64 64).ownBlock = some g := rfl
  rw [hob] at hgrow hat
  have hblk : ∀ k, k < w5.heap.size → k ≠ g → w6.heap[k]? = w5.heap[k]? := fun k hk hn => (hgrow.block k (by simp; omega) (by simpa using hn)).trans (Below.heap_alloc _ _ _ hk)
  have hg' : M ≠ g' ∧ R ≠ g' := by
    have h1 := h.neMg
    have h2 := h.neRg
    have h3 := h.hM
    have h4 := h.hR
    rcases hat with e | e
    · simp at e; subst e; exact ⟨h1, h2⟩
    · omega
  have hs := hgrow.size
  simp at hs
  have hMR := h.neMR
  have hnM := h.newM
  have hnR := h.newR
  obtain ⟨q, hq, hr⟩ := h.rd
  have hl : (xs ++ [0]).length = 65 := by simp [hx]
  have hi := ints_owned (l := xs ++ [0]) (w := w6) (base := w.heap.size) (g := g') (n := 65) (cap := cap') (by simpa using hown) (by simp [hx])
  obtain ⟨i1, i2, i3, i4⟩ := hi
  have hgn := h.newg
  have hsz := h.keep.size
  have hpost : MemPost B p0 w (.agg #[.slice (some ⟨g', 0, none⟩) 65 cap']) w6 :=
    ⟨g', 0, cap', xs ++ [0], q, by rw [hl], i1, by omega, by omega, i3, i4, hr.of (fun k hk => hblk k (by omega) (by omega)) (by omega), by omega,
      ⟨hgrow.os.trans h.keep.os, hgrow.tape.trans h.keep.tape, hgrow.output.trans h.keep.output, by omega, fun k hk hn => (hblk k (by omega) (by omega)).trans (h.keep.block k hk hn)⟩, i2⟩
  refine ⟨(World.cell?_of_block (w := w5) (a := ⟨M, 0, none⟩) (hblk M h.hM h.neMg)).trans h.box, (World.frozen?_of_block (w := w5) (a := ⟨M, 0, none⟩) (hblk M h.hM h.neMg)).trans h.boxf, ?_, (World.frozen?_of_block (w := w5) (a := ⟨R, 0, none⟩) (hblk R h.hR h.neRg)).trans h.resf, ?_⟩
  · exact (World.cell?_of_block (w := w6) (a := ⟨R, 0, none⟩) (Below.heap_setCell _ _ _ _ (by simp; omega))).trans ((World.cell?_of_block (w := w5) (a := ⟨R, 0, none⟩) (hblk R h.hR h.neRg)).trans h.res)
  · exact (hpost.store (x := ⟨M, 0, none⟩) hB hnM (fun b off cap n e => by cases e; exact hg'.1)).store (x := ⟨R, 0, none⟩) hB hnR (fun b off cap n e => by cases e; exact hg'.2)

set_option maxRecDepth 100000 in
set_option maxHeartbeats 2000000 in
theorem l20Mem_any (B p : Nat) (n : Int) (w : World) (h : Rd w B p) (hp : p ≤ 50000) (hn : 1 ≤ n) (hn' : n ≤ 8999 ∨ 9000 ≤ n) :
    Calls Try.prog 47 #[.pointer (some ⟨B, 0, none⟩), .int .i64 n] w fun e w' => ∃ v, e = .returned v ∧ MemPost B p w v w' := by
  have hB := h.lt
  go_enter Try.func47, Try.ntmps47
  go_wp2_with fail
  refine (spec_MemNew _).mono ?_
  rintro e w1 ⟨g, rfl, hO1, hg1, hb1⟩
  have hs1 := hb1.size
  have hl1 := hO1.lt
  simp at hs1 hg1
  have cR : w1.cell? ⟨w.heap.size, 0, none⟩ = some (.slice none 0 0) := (hb1.cell (p := ⟨w.heap.size, 0, none⟩) (by simp)).trans (by simp)
  have fR : w1.frozen? ⟨w.heap.size, 0, none⟩ = false := (hb1.frozen (p := ⟨w.heap.size, 0, none⟩) (by simp)).trans (by simp)
  have hr1 : Rd w1 B p := (h.alloc _).below hb1
  have hk1 : Keep B w w1 := ((Keep.refl B w).alloc _).trans (Keep.of_below hb1)
  obtain ⟨R, hR⟩ : ∃ R, R = w.heap.size := ⟨_, rfl⟩
  have hms : MS B w1.heap.size R g p w (w1.alloc (.cells #[.slice (some ⟨g, 0, none⟩) 64 64] 26)) := by
    subst hR
    exact ⟨⟨p, by omega, hr1.alloc _⟩, hk1.alloc _, by simp, by simp, (World.cell?_alloc_past _ _ _ (by omega)).trans cR, (World.frozen?_alloc_past _ _ _ (by omega)).trans fR,
      ⟨noughts 64, by simp [noughts], hO1.of (Below.heap_alloc _ _ _ hl1)⟩, by simp, by simp; omega, by omega, by omega, by omega, by omega, by omega, by omega, by omega, by omega, by omega⟩
  rw [← hR]
  clear hR cR fR hr1 hk1 hO1 hb1
  obtain ⟨M, hM⟩ : ∃ M, M = w1.heap.size := ⟨_, rfl⟩
  go_wp2_with fail
  rw [← hM] at hms ⊢
  clear hM
  generalize w1.alloc (.cells #[.slice (some ⟨g, 0, none⟩) 64 64] 26) = w2 at *
  refine (pick_ms hms (by omega) 8 (by omega) (by omega)).mono ?_
  rintro e w3 ⟨k, hk0, hk1, rfl, hms3, _⟩
  clear hms
  obtain ⟨k, rfl⟩ := Int.eq_ofNat_of_zero_le hk0
  go_wp2_with fail
  go_loopw [6] (fun i wr => ∃ j : Nat, j ≤ 7 ∧ i = .int .i64 j ∧ MS B M R g (p + 40 + 400 * (7 - j)) w wr) (fun i _ => (intOf i).toNat)
  case atStart => exact ⟨k, by omega, rfl, hms3.le (by omega)⟩
  case round =>
    clear hms3
    obtain ⟨j, hj, rfl, hms⟩ := hrel
    obtain ⟨P, hP⟩ : ∃ P, P = p + 40 + 400 * (7 - j) := ⟨_, rfl⟩
    rw [← hP] at hms
    by_cases hj0 : 0 < j
    · have hI : (0 : Int) < (j : Int) := by omega
      go_wp2_with fail
      refine wp_region_typed (by kernel_rfl) (fun _ _ => True) (fun k W => MS B M R g (P + 40 * k) w W)
        (tab [(14, kIs (.pointer (some ⟨M, 0, none⟩))), (15, kIs (.slice (some ⟨g, 0, none⟩) 64 64)), (16, kIs (.pointer (some ⟨B, 0, none⟩))), (17, kInt 0 63), (18, kIs (.pointer (some ⟨B, 0, none⟩))), (19, kInt 0 255), (20, kInt 0 65535), (21, kCellOf g)])
        [14, 15, 16, 17, 18, 19, 20, 21] (by kernel_rfl) (by kernel_rfl) ?_ ?_ ?_ ?_
      · refine tabR_stable ?_
        intro x hx
        simp at hx
        rcases hx with rfl | rfl | rfl | rfl | rfl | rfl | rfl | rfl
        all_goals intro w w' v hr hv
        all_goals exact hv
      · exact hms.drew
      · refine ops_cons (gd rfl <| tx_pure rfl rfl (fun k W h => h.le (by omega)) (fun _ => trivial) (fun i ρ W hat hW => ?_)) ?_
        · have e2 := hat.out 5 (by kernel_rfl)
          simp [Act.eval] at e2
          simp only [execOp, e2]; go_simp
        refine ops_cons (gd rfl <| tx_pure rfl rfl (fun k W h => h.le (by omega)) (fun _ => trivial) (fun i ρ W hat hW => ?_)) ?_
        · have e2 : ρ (.tmp 14) = _ := hat.dep 14 (by kernel_rfl)
          have e1 := hW.box
          simp only [execOp, e2]; go_simp
        refine ops_cons (gd rfl <| ty_move_out (.inl rfl) rfl (by kernel_rfl) rfl (fun k W h => h.le (by omega)) (fun _ => trivial)) ?_
        refine ops_cons (gd rfl <| tx_call rfl (fun i ρ W hi hat hW => ?_)) ?_
        · have e2 : ρ (.tmp 16) = _ := hat.dep 16 (by kernel_rfl)
          have hf := hat.fn
          simp at hi
          refine ⟨48, #[.pointer (some ⟨B, 0, none⟩)], by simp only [execOp]; go_simp, (addr_ms hW (by omega)).mono ?_⟩
          rintro e W' ⟨x, x0, x1, rfl, hm, _⟩
          exact ⟨_, rfl, hm.le (by omega), trivial, ⟨x, rfl, x0, x1⟩⟩
        refine ops_cons (gd rfl <| ty_move_out (.inl rfl) rfl (by kernel_rfl) rfl (fun k W h => h.le (by omega)) (fun _ => trivial)) ?_
        refine ops_cons (gd rfl <| tx_call rfl (fun i ρ W hi hat hW => ?_)) ?_
        · have e2 : ρ (.tmp 18) = _ := hat.dep 18 (by kernel_rfl)
          have hf := hat.fn
          have hcn := hat.con
          simp at hi
          refine ⟨24, #[.pointer (some ⟨B, 0, none⟩), .int .i64 256], by simp only [execOp]; go_simp, (pick_ms hW (by omega) 256 (by omega) (by omega)).mono ?_⟩
          rintro e W' ⟨x, x0, x1, rfl, hm, _⟩
          exact ⟨_, rfl, hm.le (by omega), trivial, ⟨x, rfl, x0, by omega⟩⟩
        refine ops_cons (gd rfl <| tx_val rfl (fun i ρ W hi hat hW => ?_)) ?_
        · obtain ⟨x, ex, lx, ux⟩ : kInt 0 255 W (ρ (.tmp 19)) := hat.dep 19 (by kernel_rfl)
          exact ⟨.int .i64 (x * 257), W, by simp only [execOp, ex, hat.con]; go_simp; exact wrapI (by omega) (by omega), hW.le (by omega), trivial, ⟨_, rfl, by omega, by omega⟩⟩
        refine ops_cons (gd rfl <| tx_val rfl (fun i ρ W hi hat hW => ?_)) ?_
        · have e1 : ρ (.tmp 15) = _ := hat.dep 15 (by kernel_rfl)
          obtain ⟨x, ex, lx, ux⟩ : kInt 0 63 W (ρ (.tmp 17)) := hat.dep 17 (by kernel_rfl)
          have hx64 : x < 64 := by omega
          exact ⟨.pointer (some ⟨g, x.toNat, none⟩), W, by simp only [execOp, e1, ex]; go_simp, hW.le (by omega), trivial, ⟨x.toNat, by omega, rfl⟩⟩
        refine ops_cons (gd rfl <| tx_skip rfl (fun i ρ W hi hat hW => ?_)) ?_
        · obtain ⟨c, hc, ec⟩ : kCellOf g W (ρ (.tmp 21)) := hat.dep 21 (by kernel_rfl)
          obtain ⟨x, ex, lx, ux⟩ : kInt 0 65535 W (ρ (.tmp 20)) := hat.dep 20 (by kernel_rfl)
          obtain ⟨⟨y, hy⟩, hf⟩ := hW.there c hc
          exact ⟨W.setCell ⟨g, c, none⟩ (.int .i64 x), by simp only [execOp, ec, ex]; go_simp, (hW.store hB c hc x).le (by omega), trivial⟩
        exact ops_nil
      · intro f W hW hf
        clear hf
        simp only [fill]
        go_simp
        go_wp2
        go_roundw
        case rel => exact ⟨j - 1, by omega, by go_num, hW.le (by simp; omega)⟩
        case measure => simp [intOf]; omega
    · have hj' : j = 0 := by omega
      subst hj'
      have hP' : P ≤ p + 2840 := by omega
      clear hP hj
      go_wp2_with fail
      refine (odd_ms hms (by omega) n hn hn').mono ?_
      rintro e w4 ⟨bo, rfl, hms4, _⟩
      clear hms
      cases bo
      · have c1 := hms4.box
        have c2 := hms4.boxf
        have c3 := hms4.res
        have c4 := hms4.resf
        have hpo := (hms4.post (p0 := p) (by omega) 0 (by omega)).store (u := .slice (some ⟨g, 0, none⟩) 64 64) (x := ⟨R, 0, none⟩) hB hms4.newR (fun b off cap n e => by cases e; exact hms4.neRg)
        have hne := hms4.neMR
        have HM := Hid.intro hms4
        have HP := Hid.intro hpo
        clear hms4 hpo
        go_wp2
        refine bodyPost_ret (v := .agg #[.slice (some ⟨g, 0, none⟩) 64 64]) (by simp [results, Try.results47, go_sem, c3]) rfl ⟨_, rfl, HP.out⟩
      · go_wp2_with fail
        refine (pick_ms hms4 (by omega) 3 (by omega) (by omega)).mono ?_
        rintro e w5 ⟨q, hq0, hq1, rfl, hms5, _⟩
        clear hms4
        have hq : q = 0 ∨ q = 1 ∨ q = 2 := by omega
        rcases hq with rfl | rfl | rfl
        · have c1 := hms5.box
          have c2 := hms5.boxf
          have c3 := hms5.res
          have c4 := hms5.resf
          have hpo := ((hms5.post (p0 := p) (by omega) 1 (by omega)).store (u := .slice (some ⟨g, 1, none⟩) 63 63) (x := ⟨M, 0, none⟩) hB hms5.newM (fun b off cap n e => by cases e; exact hms5.neMg)).store (u := .slice (some ⟨g, 1, none⟩) 63 63) (x := ⟨R, 0, none⟩) hB hms5.newR (fun b off cap n e => by cases e; exact hms5.neRg)
          have hne := hms5.neMR
          have c3' : (w5.setCell ⟨M, 0, none⟩ (.slice (some ⟨g, 1, none⟩) 63 63)).cell? ⟨R, 0, none⟩ = some (.slice none 0 0) := (World.cell?_of_block (w := w5) (a := ⟨R, 0, none⟩) (Below.heap_setCell _ _ _ _ (by simp; omega))).trans c3
          have HM := Hid.intro hms5
          have HP := Hid.intro hpo
          clear hms5 hpo
          go_wp2
          refine bodyPost_ret (v := .agg #[.slice (some ⟨g, 1, none⟩) 63 63]) (by simp [results, Try.results47, go_sem, c3']) rfl ⟨_, rfl, HP.out⟩
        · go_wp2_with fail
          have hlt5 := hms5.lt
          have hlB : B < w5.heap.size := by have := hms5.keep.size; omega
          refine wp_region_typed (by kernel_rfl) (Up w5.heap.size) (fun k W => MS B M R g (P + 40 + 40 + 40 * k) w W ∧ w5.heap.size ≤ W.heap.size)
            (tab [(40, kIs (.pointer (some ⟨M, 0, none⟩))), (41, kIs (.slice (some ⟨g, 0, none⟩) 64 64)), (42, kIs (.pointer (some ⟨B, 0, none⟩))), (43, kInt 0 63), (44, kRow w5.heap.size 2 (-1) 65536), (45, kIs (.pointer (some ⟨B, 0, none⟩))), (46, kInt 0 1), (47, kCell w5.heap.size (-1) 65536), (48, kInt (-1) 65536), (49, kCellOf g)])
            [40, 41, 42, 43, 44, 45, 46, 47, 48, 49] (by kernel_rfl) (by kernel_rfl) ?_ ?_ ?_ ?_
          · refine tab_stable ?_
            intro x hx
            simp at hx
            rcases hx with rfl | rfl | rfl | rfl | rfl | rfl | rfl | rfl | rfl | rfl
            all_goals first | exact stable_is _ _ | exact stable_int _ _ _ | exact stable_row _ _ _ _ | exact stable_cell _ _ _ | exact fun _ _ _ _ h => h
          · exact ⟨hms5.drew, Nat.le_refl _⟩
          · refine ops_cons (gd rfl <| tx_pure rfl rfl (fun k W h => ⟨h.1.le (by omega), h.2⟩) (Up.refl _) (fun i ρ W hat hW => ?_)) ?_
            · have e2 := hat.out 5 (by kernel_rfl)
              simp [Act.eval] at e2
              simp only [execOp, e2]; go_simp
            refine ops_cons (gd rfl <| tx_pure rfl rfl (fun k W h => ⟨h.1.le (by omega), h.2⟩) (Up.refl _) (fun i ρ W hat hW => ?_)) ?_
            · have e2 : ρ (.tmp 40) = _ := hat.dep 40 (by kernel_rfl)
              have e1 := hW.1.box
              simp only [execOp, e2]; go_simp
            refine ops_cons (gd rfl <| ty_move_out (.inl rfl) rfl (by kernel_rfl) rfl (fun k W h => ⟨h.1.le (by omega), h.2⟩) (Up.refl _)) ?_
            refine ops_cons (gd rfl <| tx_call rfl (fun i ρ W hi hat hW => ?_)) ?_
            · have e2 : ρ (.tmp 42) = _ := hat.dep 42 (by kernel_rfl)
              have hf := hat.fn
              have hcn := hat.con
              simp at hi
              refine ⟨24, #[.pointer (some ⟨B, 0, none⟩), .int .i64 64], by simp only [execOp]; go_simp, (pick_ms hW.1 (by omega) 64 (by omega) (by omega)).mono ?_⟩
              rintro e W' ⟨x, x0, x1, rfl, hm, hK⟩
              exact ⟨_, rfl, ⟨hm.le (by omega), Nat.le_trans hW.2 hK.size⟩, Up.of_keep hK hlB, ⟨x, rfl, x0, by omega⟩⟩
            refine ops_cons (gd rfl <| ty_build rfl rfl (fun _ _ o h => ⟨(h.1.alloc o).le (by omega), by have := h.2; simp; omega⟩) (fun _ _ h => h.2) (fun ρ w hc hd => ?_)) ?_
            · exact ⟨[-1, 65536], rfl, by simp, by simp only [execOp, hc]; go_simp⟩
            refine ops_cons (gd rfl <| ty_move_out (.inl rfl) rfl (by kernel_rfl) rfl (fun k W h => ⟨h.1.le (by omega), h.2⟩) (Up.refl _)) ?_
            refine ops_cons (gd rfl <| tx_call rfl (fun i ρ W hi hat hW => ?_)) ?_
            · have e2 : ρ (.tmp 45) = _ := hat.dep 45 (by kernel_rfl)
              have hf := hat.fn
              have hcn := hat.con
              simp at hi
              refine ⟨24, #[.pointer (some ⟨B, 0, none⟩), .int .i64 2], by simp only [execOp]; go_simp, (pick_ms hW.1 (by omega) 2 (by omega) (by omega)).mono ?_⟩
              rintro e W' ⟨x, x0, x1, rfl, hm, hK⟩
              exact ⟨_, rfl, ⟨hm.le (by omega), Nat.le_trans hW.2 hK.size⟩, Up.of_keep hK hlB, ⟨x, rfl, x0, by omega⟩⟩
            refine ops_cons (gd rfl <| ty_index rfl rfl (by kernel_rfl) (by kernel_rfl) rfl rfl (by decide) (by decide) rfl (fun k W h => ⟨h.1.le (by omega), h.2⟩)) ?_
            refine ops_cons (gd rfl <| ty_load rfl rfl (by kernel_rfl) rfl rfl (fun k W h => ⟨h.1.le (by omega), h.2⟩)) ?_
            refine ops_cons (gd rfl <| tx_val rfl (fun i ρ W hi hat hW => ?_)) ?_
            · have e1 : ρ (.tmp 41) = _ := hat.dep 41 (by kernel_rfl)
              obtain ⟨x, ex, lx, ux⟩ : kInt 0 63 W (ρ (.tmp 43)) := hat.dep 43 (by kernel_rfl)
              have hx64 : x < 64 := by omega
              exact ⟨.pointer (some ⟨g, x.toNat, none⟩), W, by simp only [execOp, e1, ex]; go_simp, ⟨hW.1.le (by omega), hW.2⟩, Up.refl _ _, ⟨x.toNat, by omega, rfl⟩⟩
            refine ops_cons (gd rfl <| tx_skip rfl (fun i ρ W hi hat hW => ?_)) ?_
            · obtain ⟨c, hc, ec⟩ : kCellOf g W (ρ (.tmp 49)) := hat.dep 49 (by kernel_rfl)
              obtain ⟨x, ex, lx, ux⟩ : kInt (-1) 65536 W (ρ (.tmp 48)) := hat.dep 48 (by kernel_rfl)
              obtain ⟨⟨y, hy⟩, hf⟩ := hW.1.there c hc
              exact ⟨W.setCell ⟨g, c, none⟩ (.int .i64 x), by simp only [execOp, ec, ex]; go_simp, ⟨(hW.1.store hB c hc x).le (by omega), by simpa using hW.2⟩, Up.setCell (by simpa using hlt5) _⟩
            exact ops_nil
          · intro f W hW0 hf
            clear hf
            have hW := hW0.1
            simp at hW
            simp only [fill]
            have c1 := hW.box
            have c2 := hW.boxf
            have c3 := hW.res
            have c4 := hW.resf
            have hpo := (hW.post (p0 := p) (by omega) 0 (by omega)).store (u := .slice (some ⟨g, 0, none⟩) 64 64) (x := ⟨R, 0, none⟩) hB hW.newR (fun b off cap n e => by cases e; exact hW.neRg)
            have hne := hW.neMR
            have HP := Hid.intro hpo
            clear hW hW0 hms5 hpo
            go_simp
            go_wp2
            refine bodyPost_ret (v := .agg #[.slice (some ⟨g, 0, none⟩) 64 64]) (by simp [results, Try.results47, go_sem, c3]) rfl ⟨_, rfl, HP.out⟩
        · obtain ⟨i0, hi, hz0, hz1, hz2⟩ := info_parts Try.infoInt
          obtain ⟨xs, hxl, hO⟩ := hms5.row
          obtain ⟨r, hr0, hr⟩ := hms5.rd
          have hown : w5.ownsRow w.heap.size 3 1 (.slice (some ⟨g, 0, none⟩) 64 64) 64 (xs.map (Value.int .i64)) := hO.owns hms5.newg (by unfold maxLen; omega)
          have c1 := hms5.box
          have hsz5 := hms5.keep.size
          go_wp2_with (at_builtin; refine wpList_append_lies _ rfl _ _ _ rfl w.heap.size 3 i0 _ 1 8 Try.underlying24 hi hz0 hz1 hz2 rfl (by omega) (.slice (some ⟨g, 0, none⟩) 64 64) 64 _ rfl (hown.alloc _) ⟨w5.heap.size, 0, none⟩ 1 1 [.int .i64 0] rfl rfl (cell_one_new _ _ _) (by simp [Value.oneCell']) (by omega) (by unfold maxLen; omega) (by omega) (by simp; omega) (w5.heap.size + 1) (by simp) ?_; intro g' cap' w6 hown6 hgrow6 hat6 hlt6; obtain ⟨cM6, fM6, cR6, fR6, HP6⟩ := app_facts (p0 := p) hB hms5 (by omega) hxl hgrow6 hown6 hat6; have hne6 := hms5.neMR; clear hown6 hgrow6 hat6 hms5 hown hO c1)
          refine bodyPost_ret (v := .agg #[.slice (some ⟨g', 0, none⟩) 65 cap']) (by simp [results, Try.results47, go_sem, cR6]) rfl ⟨_, rfl, HP6.out⟩

end Go.Proofs.Ytpbkpfdbdfnlbaa
