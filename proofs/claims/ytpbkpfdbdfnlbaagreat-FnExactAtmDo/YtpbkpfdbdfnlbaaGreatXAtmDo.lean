/-
  The law FnExactAtmDo, walked, by what AtmDo of the program answers.
-/
import Derived.Test.YtpbkpfdbdfnlbaaGreatRows
import Derived.Test.YtpbkpfdbdfnlbaaGreatMarkR
import Derived.Test.YtpbkpfdbdfnlbaaGreatKOut
import Derived.Test.YtpbkpfdbdfnlbaaGreatSpcH
import Derived.Test.YtpbkpfdbdfnlbaaGreatOpsXM
namespace Go.Proofs.YtpbkpfdbdfnlbaaGreat
open Go.RowKit
set_option linter.unusedSimpArgs false
set_option linter.unusedVariables false

theorem own_lt {M : Nat} {w : World} {p : Option Addr} {c : Nat} {l : List Int} (h : OwnN M w p c l) : l ≠ [] → ∀ b, p = some ⟨b, 0, none⟩ → M ≤ b ∧ b < w.heap.size := fun h0 b e => by
  rcases h with h | ⟨g, e', hM, hO⟩
  · exact absurd h h0
  · rw [e] at e'; cases e'; exact ⟨hM, hO.lt⟩
theorem below_two (w : World) (o o' : Obj) : Below w.heap.size w ((w.alloc o).alloc o') := ((Below.refl _ w).alloc (Nat.le_refl _) o).alloc (by simp) o'
theorem two_at0 (w : World) (o o' : Obj) : ((w.alloc o).alloc o').heap[w.heap.size]? = some o := (Below.heap_alloc _ _ _ (by simp)).trans (nw_at _ rfl)
theorem two_at1 (w : World) (o o' : Obj) : ((w.alloc o).alloc o').heap[w.heap.size + 1]? = some o' := nw_at _ (by simp)
/-- copies, of a kind -/
def kRw (ms : List Rng) : World → Value → Prop := fun w v => ∃ g cs, v = .slice (some ⟨g, 0, none⟩) ms.length ms.length ∧ RowOf w (some ⟨g, 0, none⟩) ms ∧ w.heap[g]? = some (.cells cs 74 (0, 0))
def kCp (s : Stt) : World → Value → Prop := fun w v => ∃ g g', v = stV s (some ⟨g, 0, none⟩) s.words.length (some ⟨g', 0, none⟩) s.holds.length ∧ ORow 3 1 w g s.words.length s.words.length (s.words.map (Value.int .i64)) ∧ ORow 3 1 w g' s.holds.length s.holds.length (s.holds.map (Value.int .i64))
def kRc (r : Req) : World → Value → Prop := fun w v => ∃ g g', v = reqV r (some ⟨g, 0, none⟩) r.data.length (some ⟨g', 0, none⟩) r.lanes.length ∧ ORow 3 1 w g r.data.length r.data.length (r.data.map (Value.int .i64)) ∧ ORow 3 1 w g' r.lanes.length r.lanes.length (r.lanes.map (Value.int .i64))
theorem kRw_gr {ms : List Rng} : ∀ w w' v, Gr w w' → kRw ms w v → kRw ms w' v := by
  rintro w w' v hg ⟨g, cs, e, h1, h2⟩; exact ⟨g, cs, e, h1.below hg, hg.cells h2⟩
theorem kRw_kt {ms : List Rng} : ∀ (t : Nat) w w' v, (t = 35 ∨ t = 37) → KT t w w' → kRw ms w v → kRw ms w' v := by
  rintro t w w' v ht hg ⟨g, cs, e, h1, h2⟩
  have h3 := hg.cells h2 (by rcases ht with rfl | rfl <;> decide)
  exact ⟨g, cs, e, h1.of hg.size (fun b off e' _ => by cases e'; exact h3.trans h2.symm), h3⟩
theorem kCp_gr {s : Stt} : ∀ w w' v, Gr w w' → kCp s w v → kCp s w' v := by
  rintro w w' v hg ⟨g, g', e, h1, h2⟩; exact ⟨g, g', e, h1.gr hg, h2.gr hg⟩
theorem kCp_kt {s : Stt} : ∀ (t : Nat) w w' v, (t = 35 ∨ t = 37) → KT t w w' → kCp s w v → kCp s w' v := by
  rintro t w w' v ht hg ⟨g, g', e, h1, h2⟩; exact ⟨g, g', e, h1.kt hg (by rcases ht with rfl | rfl <;> decide), h2.kt hg (by rcases ht with rfl | rfl <;> decide)⟩
theorem kRc_gr {r : Req} : ∀ w w' v, Gr w w' → kRc r w v → kRc r w' v := by
  rintro w w' v hg ⟨g, g', e, h1, h2⟩; exact ⟨g, g', e, h1.gr hg, h2.gr hg⟩
theorem kRc_kt {r : Req} : ∀ (t : Nat) w w' v, (t = 35 ∨ t = 37) → KT t w w' → kRc r w v → kRc r w' v := by
  rintro t w w' v ht hg ⟨g, g', e, h1, h2⟩; exact ⟨g, g', e, h1.kt hg (by rcases ht with rfl | rfl <;> decide), h2.kt hg (by rcases ht with rfl | rfl <;> decide)⟩
theorem cp_at {s : Stt} {w : World} {g g' : Nat} (h1 : ORow 3 1 w g s.words.length s.words.length (s.words.map (Value.int .i64))) (h2 : ORow 3 1 w g' s.holds.length s.holds.length (s.holds.map (Value.int .i64))) (l1 : s.words.length ≤ 1048576) (l2 : s.holds.length ≤ 1048576) : StAt w s (some ⟨g, 0, none⟩) s.words.length (some ⟨g', 0, none⟩) s.holds.length :=
  ⟨h1.ints, h2.ints, Nat.le_refl _, by omega, Nat.le_refl _, by omega⟩
theorem rc_at {r : Req} {w : World} {g g' : Nat} (h1 : ORow 3 1 w g r.data.length r.data.length (r.data.map (Value.int .i64))) (h2 : ORow 3 1 w g' r.lanes.length r.lanes.length (r.lanes.map (Value.int .i64))) (l1 : r.data.length ≤ 1048576) (l2 : r.lanes.length ≤ 1048576) : ReqAt w r (some ⟨g, 0, none⟩) r.data.length (some ⟨g', 0, none⟩) r.lanes.length :=
  ⟨h1.ints, h2.ints, Nat.le_refl _, by omega, Nat.le_refl _, by omega⟩
/-- AtmDo by the kinds of its arguments -/
theorem do_kinds {F : Nat} (hF : AtmDoF F) {ms : List Rng} {s : Stt} {who : Int} {r : Req} {zs : Stt} {zr : Rsp} (hz : atmZ ms s who r = (zs, zr)) (l0 : ms.length ≤ 1048576) (l1 : s.words.length ≤ 1048576) (l2 : s.holds.length ≤ 1048576) (l3 : r.data.length ≤ 1048576) (l4 : r.lanes.length ≤ 1048576) (M : Nat)
    (vm vs vr : Value) (W : World) (hM : M ≤ W.heap.size) (hm : kRw ms W vm) (hs : kCp s W vs) (hr : kRc r W vr) :
    Calls Tryz.prog F #[vm, vs, .int .i64 who, vr] W fun e w' => (∃ v, e = .returned v ∧ kOut M zs zr w' v) ∧ Below W.heap.size W w' := by
  obtain ⟨g, cs, rfl, h1, _⟩ := hm
  obtain ⟨g1, g2, rfl, o1, o2⟩ := hs
  obtain ⟨g3, g4, rfl, o3, o4⟩ := hr
  have := hF (some ⟨g, 0, none⟩) ms.length ms s _ _ _ _ who r _ _ _ _ W h1 (Nat.le_refl _) (by omega) (cp_at o1 o2 l1 l2) (rc_at o3 o4 l3 l4)
  rw [hz] at this
  refine this.mono ?_
  rintro e w' ⟨qw, dw, qh, dh, qx, dx, rfl, hO, hb⟩
  exact ⟨⟨_, rfl, qw, dw, qh, dh, qx, dx, rfl, ⟨hO.words.mono hM, hO.holds.mono hM, hO.data.mono hM, hO.cw1, hO.cw2, hO.ch1, hO.ch2, hO.cx1, hO.cx2, hO.wh, hO.wx, hO.hx⟩⟩, hb⟩


theorem Up.trans {M : Nat} {a b c : World} (h : Up M a b) (k : Up M b c) : Up M a c := ⟨Nat.le_trans h.size k.size, fun i hM hi => (k.block i hM (Nat.lt_of_lt_of_le hi h.size)).trans (h.block i hM hi)⟩
theorem Up.mono {M M' : Nat} {a b : World} (h : Up M a b) (hM : M ≤ M') : Up M' a b := ⟨h.size, fun i hi hs => h.block i (by omega) hs⟩
theorem Up.of_kept {M : Nat} {D : Nat → Prop} {a b : World} (h : Kept D a b) (hd : ∀ k, D k → k < M) : Up M a b := ⟨h.size, fun k hM hk => h.block k hk (fun e => by have := hd k e; omega)⟩
theorem below_kept {N : Nat} {D : Nat → Prop} {a b c : World} (h : Below N a b) (k : Kept D b c) (hd : ∀ i, D i → N ≤ i) (hN : N ≤ b.heap.size) : Below N a c :=
  ⟨k.os.trans h.os, k.tape.trans h.tape, k.output.trans h.output, Nat.le_trans h.size k.size, fun i hi => (k.block i (by omega) (fun e => by have := hd i e; omega)).trans (h.block i hi)⟩
theorem OwnN.up {M : Nat} {w w' : World} {p : Option Addr} {cap : Nat} {l : List Int} (h : OwnN M w p cap l) (hu : Up M w w') : OwnN M w' p cap l := by
  rcases h with h | ⟨g, h1, h2, h3⟩
  · exact .inl h
  · exact .inr ⟨g, h1, h2, h3.of (hu.block g h2 h3.lt)⟩
theorem AtmOut.up {M : Nat} {w w' : World} {s : Stt} {x : Rsp} {pw ph px : Option Addr} {cw ch cx : Nat} (h : AtmOut M w s x pw cw ph ch px cx) (hu : Up M w w') : AtmOut M w' s x pw cw ph ch px cx :=
  ⟨h.words.up hu, h.holds.up hu, h.data.up hu, h.cw1, h.cw2, h.ch1, h.ch2, h.cx1, h.cx2, h.wh, h.wx, h.hx⟩
theorem apart2 {p q x : Option Addr} {l m d : List Int} (h1 : Apart p l x d) (h2 : Apart q m x d) : ∀ b, d ≠ [] → x = some ⟨b, 0, none⟩ → ¬ ((l ≠ [] ∧ p = some ⟨b, 0, none⟩) ∨ (m ≠ [] ∧ q = some ⟨b, 0, none⟩)) := by
  intro b hd hx h
  rcases h with ⟨hl, hp⟩ | ⟨hm, hq⟩
  · rcases h1 with h | h | h
    · exact hl h
    · exact hd h
    · exact h (hp.trans hx.symm)
  · rcases h2 with h | h | h
    · exact hm h
    · exact hd h
    · exact h (hq.trans hx.symm)
theorem apart1 {p x : Option Addr} {l d : List Int} {n : Nat} {k : Int} (h1 : Apart p l x d) (hn : n = l.length) : ∀ b, markL k n ≠ [] → p = some ⟨b, 0, none⟩ → ¬ (d ≠ [] ∧ x = some ⟨b, 0, none⟩) := by
  intro b hl hp ⟨hd, hx⟩
  rcases h1 with h | h | h
  · subst hn; subst h; exact hl (markL_nil k)
  · exact hd h
  · exact h (hp.trans hx.symm)
theorem z_len {ms : List Rng} {s : Stt} {who : Int} {r : Req} {zs : Stt} {zr : Rsp} (h : atmZ ms s who r = (zs, zr)) : zs.words.length ≤ 1000 ∧ zs.holds.length ≤ 1000 ∧ zr.data.length ≤ 1000 := by
  by_cases hk : atmOkB ms s who r = true
  · rw [atmZ_ok' hk] at h
    have hl := atmDo_len hk
    obtain ⟨_, hm, hh, _⟩ := atmOk_parts hk
    have := memOk_len hm
    rw [h] at hl
    simp only at hl
    omega
  · rw [atmZ_no' (by simpa using hk)] at h
    cases h
    simp
def fl_xda (vl vs vw vq : Value) (B5 B7 : Nat) (KM KS KR : World → Value → Prop) (M : Nat) (K5 : World → Value → Prop) : List Fact := [
  fIs 38 (vl),
  fK 39 KM,
  fIs 40 (vs),
  fK 41 KS,
  fIs 42 (vw),
  fIs 43 (vq),
  fK 44 KR,
  fK 45 K5,
  fK 37 K5,
  ⟨[37, 46], [], fun s _ _ => ∃ b, s 37 = .tuple #[s 46, b]⟩,
  ⟨[37, 47], [], fun s _ _ => ∃ b, s 37 = .tuple #[b, s 47]⟩,
  ⟨[10], [], fun s _ w => ∃ b v0 v1, s 10 = .pointer (some ⟨b, 0, none⟩) ∧ M ≤ b ∧ w.heap[b]? = some (.cells #[v0, v1] 35 (0, 0))⟩,
  ⟨[11], [], fun s _ w => ∃ b v0 v1 v2, s 11 = .pointer (some ⟨b, 0, none⟩) ∧ M ≤ b ∧ w.heap[b]? = some (.cells #[v0, v1, v2] 37 (0, 0))⟩,
  ⟨[10, 46], [], fun s _ w => ∃ b v0 v1, s 10 = .pointer (some ⟨b, 0, none⟩) ∧ M ≤ b ∧ s 46 = .agg #[v0, v1] ∧ w.heap[b]? = some (.cells #[v0, v1] 35 (0, 0))⟩,
  ⟨[11, 47], [], fun s _ w => ∃ b v0 v1 v2, s 11 = .pointer (some ⟨b, 0, none⟩) ∧ M ≤ b ∧ s 47 = .agg #[v0, v1, v2] ∧ w.heap[b]? = some (.cells #[v0, v1, v2] 37 (0, 0))⟩]

theorem st_xda (vl vs vw vq : Value) (B5 B7 : Nat) (KM KS KR : World → Value → Prop) (M : Nat) (K5 : World → Value → Prop) (h5g : ∀ w w' v, Gr w w' → K5 w v → K5 w' v) (hMg : ∀ w w' v, Gr w w' → KM w v → KM w' v) (hMt : ∀ (t : Nat) w w' v, (t = 35 ∨ t = 37) → KT t w w' → KM w v → KM w' v) (hSg : ∀ w w' v, Gr w w' → KS w v → KS w' v) (hSt : ∀ (t : Nat) w w' v, (t = 35 ∨ t = 37) → KT t w w' → KS w v → KS w' v) (hRg : ∀ w w' v, Gr w w' → KR w v → KR w' v) (hRt : ∀ (t : Nat) w w' v, (t = 35 ∨ t = 37) → KT t w w' → KR w v → KR w' v) : ∀ F ∈ fl_xda vl vs vw vq B5 B7 KM KS KR M K5, F.Stab :=
  stab_cons (fIs_stab _ _) <|
  stab_cons (fK_stab hMg) <|
  stab_cons (fIs_stab _ _) <|
  stab_cons (fK_stab hSg) <|
  stab_cons (fIs_stab _ _) <|
  stab_cons (fIs_stab _ _) <|
  stab_cons (fK_stab hRg) <|
  stab_cons (fK_stab h5g) <|
  stab_cons (fK_stab h5g) <|
  stab_cons (fun _ _ _ _ _ h => h) <|
  stab_cons (fun _ _ _ _ _ h => h) <|
  stab_cons (fun _ _ _ _ hg h => (let ⟨b, v0, v1, h1, h2, h3⟩ := h; ⟨b, v0, v1, h1, h2, hg.cells h3⟩)) <|
  stab_cons (fun _ _ _ _ hg h => (let ⟨b, v0, v1, v2, h1, h2, h3⟩ := h; ⟨b, v0, v1, v2, h1, h2, hg.cells h3⟩)) <|
  stab_cons (fun _ _ _ _ hg h => (let ⟨b, v0, v1, h1, h2, h3, h4⟩ := h; ⟨b, v0, v1, h1, h2, h3, hg.cells h4⟩)) <|
  stab_cons (fun _ _ _ _ hg h => (let ⟨b, v0, v1, v2, h1, h2, h3, h4⟩ := h; ⟨b, v0, v1, v2, h1, h2, h3, hg.cells h4⟩)) stab_nil

theorem kta_xda (vl vs vw vq : Value) (B5 B7 : Nat) (KM KS KR : World → Value → Prop) (M : Nat) (K5 : World → Value → Prop) (h5t : ∀ w w' v, KT 35 w w' → K5 w v → K5 w' v) (hMg : ∀ w w' v, Gr w w' → KM w v → KM w' v) (hMt : ∀ (t : Nat) w w' v, (t = 35 ∨ t = 37) → KT t w w' → KM w v → KM w' v) (hSg : ∀ w w' v, Gr w w' → KS w v → KS w' v) (hSt : ∀ (t : Nat) w w' v, (t = 35 ∨ t = 37) → KT t w w' → KS w v → KS w' v) (hRg : ∀ w w' v, Gr w w' → KR w v → KR w' v) (hRt : ∀ (t : Nat) w w' v, (t = 35 ∨ t = 37) → KT t w w' → KR w v → KR w' v) : ∀ j, [11, 13].contains j = false → ∀ s d w w', KT 35 w w' → (factsOf (fl_xda vl vs vw vq B5 B7 KM KS KR M K5) j).body s d w → (factsOf (fl_xda vl vs vw vq B5 B7 KM KS KR M K5) j).body s d w' := by
  intro j hj s d w w' hk hb
  rcases j with _ | _ | _ | _ | _ | _ | _ | _ | _ | _ | _ | _ | _ | _ | _ | j
  · exact hb
  · exact hMt _ _ _ _ (by decide) hk hb
  · exact hb
  · exact hSt _ _ _ _ (by decide) hk hb
  · exact hb
  · exact hb
  · exact hRt _ _ _ _ (by decide) hk hb
  · exact h5t _ _ _ hk hb
  · exact h5t _ _ _ hk hb
  · exact hb
  · exact hb
  · simp at hj
  · obtain ⟨b, v0, v1, v2, h1, h2, h3⟩ := hb; exact ⟨b, v0, v1, v2, h1, h2, hk.cells h3 (by decide)⟩
  · simp at hj
  · obtain ⟨b, v0, v1, v2, h1, h2, h3, h4⟩ := hb; exact ⟨b, v0, v1, v2, h1, h2, h3, hk.cells h4 (by decide)⟩
  · trivial

theorem ktb_xda (vl vs vw vq : Value) (B5 B7 : Nat) (KM KS KR : World → Value → Prop) (M : Nat) (K5 : World → Value → Prop) (h5t : ∀ w w' v, KT 37 w w' → K5 w v → K5 w' v) (hMg : ∀ w w' v, Gr w w' → KM w v → KM w' v) (hMt : ∀ (t : Nat) w w' v, (t = 35 ∨ t = 37) → KT t w w' → KM w v → KM w' v) (hSg : ∀ w w' v, Gr w w' → KS w v → KS w' v) (hSt : ∀ (t : Nat) w w' v, (t = 35 ∨ t = 37) → KT t w w' → KS w v → KS w' v) (hRg : ∀ w w' v, Gr w w' → KR w v → KR w' v) (hRt : ∀ (t : Nat) w w' v, (t = 35 ∨ t = 37) → KT t w w' → KR w v → KR w' v) : ∀ j, [12, 14].contains j = false → ∀ s d w w', KT 37 w w' → (factsOf (fl_xda vl vs vw vq B5 B7 KM KS KR M K5) j).body s d w → (factsOf (fl_xda vl vs vw vq B5 B7 KM KS KR M K5) j).body s d w' := by
  intro j hj s d w w' hk hb
  rcases j with _ | _ | _ | _ | _ | _ | _ | _ | _ | _ | _ | _ | _ | _ | _ | j
  · exact hb
  · exact hMt _ _ _ _ (by decide) hk hb
  · exact hb
  · exact hSt _ _ _ _ (by decide) hk hb
  · exact hb
  · exact hb
  · exact hRt _ _ _ _ (by decide) hk hb
  · exact h5t _ _ _ hk hb
  · exact h5t _ _ _ hk hb
  · exact hb
  · exact hb
  · obtain ⟨b, v0, v1, h1, h2, h3⟩ := hb; exact ⟨b, v0, v1, h1, h2, hk.cells h3 (by decide)⟩
  · simp at hj
  · obtain ⟨b, v0, v1, h1, h2, h3, h4⟩ := hb; exact ⟨b, v0, v1, h1, h2, h3, hk.cells h4 (by decide)⟩
  · simp at hj
  · trivial

theorem aska_xda {vl vs vw vq : Value} {B5 B7 : Nat} {KM KS KR : World → Value → Prop} {M : Nat} {K5 : World → Value → Prop} (j : Nat) (hj : j < 15) (h : [11, 13].contains j = true ∨ (factsOf (fl_xda vl vs vw vq B5 B7 KM KS KR M K5) j).dones.contains 13 = true) : j = 11 ∨ j = 13 := by
  rcases j with _ | _ | _ | _ | _ | _ | _ | _ | _ | _ | _ | _ | _ | _ | _ | j
  all_goals first | omega | (rcases h with h | h <;> exact absurd (show false = true from h) (by decide))

theorem askb_xda {vl vs vw vq : Value} {B5 B7 : Nat} {KM KS KR : World → Value → Prop} {M : Nat} {K5 : World → Value → Prop} (j : Nat) (hj : j < 15) (h : [12, 14].contains j = true ∨ (factsOf (fl_xda vl vs vw vq B5 B7 KM KS KR M K5) j).dones.contains 14 = true) : j = 12 ∨ j = 14 := by
  rcases j with _ | _ | _ | _ | _ | _ | _ | _ | _ | _ | _ | _ | _ | _ | _ | j
  all_goals first | omega | (rcases h with h | h <;> exact absurd (show false = true from h) (by decide))

def fl_xdb (vl vs vw vq : Value) (B5 B7 : Nat) (KM KS KR : World → Value → Prop) (M : Nat) (K5 : World → Value → Prop) : List Fact := [
  fIs 130 (vl),
  fK 131 KM,
  fIs 132 (vs),
  fK 133 KS,
  fIs 134 (vw),
  fIs 135 (vq),
  fK 136 KR,
  fK 137 K5,
  fK 129 K5,
  ⟨[129, 138], [], fun s _ _ => ∃ b, s 129 = .tuple #[s 138, b]⟩,
  ⟨[129, 139], [], fun s _ _ => ∃ b, s 129 = .tuple #[b, s 139]⟩,
  ⟨[20], [], fun s _ w => ∃ b v0 v1, s 20 = .pointer (some ⟨b, 0, none⟩) ∧ M ≤ b ∧ w.heap[b]? = some (.cells #[v0, v1] 35 (0, 0))⟩,
  ⟨[21], [], fun s _ w => ∃ b v0 v1 v2, s 21 = .pointer (some ⟨b, 0, none⟩) ∧ M ≤ b ∧ w.heap[b]? = some (.cells #[v0, v1, v2] 37 (0, 0))⟩,
  ⟨[20, 138], [], fun s _ w => ∃ b v0 v1, s 20 = .pointer (some ⟨b, 0, none⟩) ∧ M ≤ b ∧ s 138 = .agg #[v0, v1] ∧ w.heap[b]? = some (.cells #[v0, v1] 35 (0, 0))⟩,
  ⟨[21, 139], [], fun s _ w => ∃ b v0 v1 v2, s 21 = .pointer (some ⟨b, 0, none⟩) ∧ M ≤ b ∧ s 139 = .agg #[v0, v1, v2] ∧ w.heap[b]? = some (.cells #[v0, v1, v2] 37 (0, 0))⟩]

theorem st_xdb (vl vs vw vq : Value) (B5 B7 : Nat) (KM KS KR : World → Value → Prop) (M : Nat) (K5 : World → Value → Prop) (h5g : ∀ w w' v, Gr w w' → K5 w v → K5 w' v) (hMg : ∀ w w' v, Gr w w' → KM w v → KM w' v) (hMt : ∀ (t : Nat) w w' v, (t = 35 ∨ t = 37) → KT t w w' → KM w v → KM w' v) (hSg : ∀ w w' v, Gr w w' → KS w v → KS w' v) (hSt : ∀ (t : Nat) w w' v, (t = 35 ∨ t = 37) → KT t w w' → KS w v → KS w' v) (hRg : ∀ w w' v, Gr w w' → KR w v → KR w' v) (hRt : ∀ (t : Nat) w w' v, (t = 35 ∨ t = 37) → KT t w w' → KR w v → KR w' v) : ∀ F ∈ fl_xdb vl vs vw vq B5 B7 KM KS KR M K5, F.Stab :=
  stab_cons (fIs_stab _ _) <|
  stab_cons (fK_stab hMg) <|
  stab_cons (fIs_stab _ _) <|
  stab_cons (fK_stab hSg) <|
  stab_cons (fIs_stab _ _) <|
  stab_cons (fIs_stab _ _) <|
  stab_cons (fK_stab hRg) <|
  stab_cons (fK_stab h5g) <|
  stab_cons (fK_stab h5g) <|
  stab_cons (fun _ _ _ _ _ h => h) <|
  stab_cons (fun _ _ _ _ _ h => h) <|
  stab_cons (fun _ _ _ _ hg h => (let ⟨b, v0, v1, h1, h2, h3⟩ := h; ⟨b, v0, v1, h1, h2, hg.cells h3⟩)) <|
  stab_cons (fun _ _ _ _ hg h => (let ⟨b, v0, v1, v2, h1, h2, h3⟩ := h; ⟨b, v0, v1, v2, h1, h2, hg.cells h3⟩)) <|
  stab_cons (fun _ _ _ _ hg h => (let ⟨b, v0, v1, h1, h2, h3, h4⟩ := h; ⟨b, v0, v1, h1, h2, h3, hg.cells h4⟩)) <|
  stab_cons (fun _ _ _ _ hg h => (let ⟨b, v0, v1, v2, h1, h2, h3, h4⟩ := h; ⟨b, v0, v1, v2, h1, h2, h3, hg.cells h4⟩)) stab_nil

theorem kta_xdb (vl vs vw vq : Value) (B5 B7 : Nat) (KM KS KR : World → Value → Prop) (M : Nat) (K5 : World → Value → Prop) (h5t : ∀ w w' v, KT 35 w w' → K5 w v → K5 w' v) (hMg : ∀ w w' v, Gr w w' → KM w v → KM w' v) (hMt : ∀ (t : Nat) w w' v, (t = 35 ∨ t = 37) → KT t w w' → KM w v → KM w' v) (hSg : ∀ w w' v, Gr w w' → KS w v → KS w' v) (hSt : ∀ (t : Nat) w w' v, (t = 35 ∨ t = 37) → KT t w w' → KS w v → KS w' v) (hRg : ∀ w w' v, Gr w w' → KR w v → KR w' v) (hRt : ∀ (t : Nat) w w' v, (t = 35 ∨ t = 37) → KT t w w' → KR w v → KR w' v) : ∀ j, [11, 13].contains j = false → ∀ s d w w', KT 35 w w' → (factsOf (fl_xdb vl vs vw vq B5 B7 KM KS KR M K5) j).body s d w → (factsOf (fl_xdb vl vs vw vq B5 B7 KM KS KR M K5) j).body s d w' := by
  intro j hj s d w w' hk hb
  rcases j with _ | _ | _ | _ | _ | _ | _ | _ | _ | _ | _ | _ | _ | _ | _ | j
  · exact hb
  · exact hMt _ _ _ _ (by decide) hk hb
  · exact hb
  · exact hSt _ _ _ _ (by decide) hk hb
  · exact hb
  · exact hb
  · exact hRt _ _ _ _ (by decide) hk hb
  · exact h5t _ _ _ hk hb
  · exact h5t _ _ _ hk hb
  · exact hb
  · exact hb
  · simp at hj
  · obtain ⟨b, v0, v1, v2, h1, h2, h3⟩ := hb; exact ⟨b, v0, v1, v2, h1, h2, hk.cells h3 (by decide)⟩
  · simp at hj
  · obtain ⟨b, v0, v1, v2, h1, h2, h3, h4⟩ := hb; exact ⟨b, v0, v1, v2, h1, h2, h3, hk.cells h4 (by decide)⟩
  · trivial

theorem ktb_xdb (vl vs vw vq : Value) (B5 B7 : Nat) (KM KS KR : World → Value → Prop) (M : Nat) (K5 : World → Value → Prop) (h5t : ∀ w w' v, KT 37 w w' → K5 w v → K5 w' v) (hMg : ∀ w w' v, Gr w w' → KM w v → KM w' v) (hMt : ∀ (t : Nat) w w' v, (t = 35 ∨ t = 37) → KT t w w' → KM w v → KM w' v) (hSg : ∀ w w' v, Gr w w' → KS w v → KS w' v) (hSt : ∀ (t : Nat) w w' v, (t = 35 ∨ t = 37) → KT t w w' → KS w v → KS w' v) (hRg : ∀ w w' v, Gr w w' → KR w v → KR w' v) (hRt : ∀ (t : Nat) w w' v, (t = 35 ∨ t = 37) → KT t w w' → KR w v → KR w' v) : ∀ j, [12, 14].contains j = false → ∀ s d w w', KT 37 w w' → (factsOf (fl_xdb vl vs vw vq B5 B7 KM KS KR M K5) j).body s d w → (factsOf (fl_xdb vl vs vw vq B5 B7 KM KS KR M K5) j).body s d w' := by
  intro j hj s d w w' hk hb
  rcases j with _ | _ | _ | _ | _ | _ | _ | _ | _ | _ | _ | _ | _ | _ | _ | j
  · exact hb
  · exact hMt _ _ _ _ (by decide) hk hb
  · exact hb
  · exact hSt _ _ _ _ (by decide) hk hb
  · exact hb
  · exact hb
  · exact hRt _ _ _ _ (by decide) hk hb
  · exact h5t _ _ _ hk hb
  · exact h5t _ _ _ hk hb
  · exact hb
  · exact hb
  · obtain ⟨b, v0, v1, h1, h2, h3⟩ := hb; exact ⟨b, v0, v1, h1, h2, hk.cells h3 (by decide)⟩
  · simp at hj
  · obtain ⟨b, v0, v1, h1, h2, h3, h4⟩ := hb; exact ⟨b, v0, v1, h1, h2, h3, hk.cells h4 (by decide)⟩
  · simp at hj
  · trivial

theorem aska_xdb {vl vs vw vq : Value} {B5 B7 : Nat} {KM KS KR : World → Value → Prop} {M : Nat} {K5 : World → Value → Prop} (j : Nat) (hj : j < 15) (h : [11, 13].contains j = true ∨ (factsOf (fl_xdb vl vs vw vq B5 B7 KM KS KR M K5) j).dones.contains 13 = true) : j = 11 ∨ j = 13 := by
  rcases j with _ | _ | _ | _ | _ | _ | _ | _ | _ | _ | _ | _ | _ | _ | _ | j
  all_goals first | omega | (rcases h with h | h <;> exact absurd (show false = true from h) (by decide))

theorem askb_xdb {vl vs vw vq : Value} {B5 B7 : Nat} {KM KS KR : World → Value → Prop} {M : Nat} {K5 : World → Value → Prop} (j : Nat) (hj : j < 15) (h : [12, 14].contains j = true ∨ (factsOf (fl_xdb vl vs vw vq B5 B7 KM KS KR M K5) j).dones.contains 14 = true) : j = 12 ∨ j = 14 := by
  rcases j with _ | _ | _ | _ | _ | _ | _ | _ | _ | _ | _ | _ | _ | _ | _ | j
  all_goals first | omega | (rcases h with h | h <;> exact absurd (show false = true from h) (by decide))

set_option maxRecDepth 100000 in
set_option maxHeartbeats 8000000 in
theorem walk (hI : AtmDoC) (a : Option Addr) (cap : Nat) (ms : List Rng) (s : Stt) (pw ph : Option Addr) (cw ch : Nat) (who : Int) (r : Req) (pd pl : Option Addr) (cd cl : Nat) (w : World) (hm : RowOf w a ms) (hc : ms.length ≤ cap) (hc' : cap ≤ 9223372036854775807) (hs : StAt w s pw cw ph ch) (hr : ReqAt w r pd cd pl cl) :
    Calls Tryz.prog 3 #[.slice a ms.length cap, stV s pw cw ph ch, .int .i64 who, reqV r pd cd pl cl] w fun e w' => e = .returned (.bool true) ∧ Below w.heap.size w w' := by
  have hbl : Below w.heap.size w ((w.alloc (.cells #[.slice pw s.words.length cw, .slice ph s.holds.length ch] 27)).alloc (.cells #[.int .i64 r.id, .int .i64 r.kind, .int .i64 r.addr, .int .i64 r.many, .bool r.wrap, .slice pd r.data.length cd, .slice pl r.lanes.length cl] 29)) := ((Below.refl _ w).alloc (Nat.le_refl _) _).alloc (by simp) _
  have HC := Hid.intro hI
  have HM := Hid.intro hm
  have HS := Hid.intro hs
  have HR := Hid.intro hr
  have d1 := hs.cw1
  have d2 := hs.cw2
  have d3 := hs.ch1
  have d4 := hs.ch2
  have d5 := hr.cd1
  have d6 := hr.cd2
  have d7 := hr.cl1
  have d8 := hr.cl2
  clear hI hm hs hr
  have HZ := Hid.intro (fun W => sz_any a ms.length cap W (by omega))
  by_cases hlm : ms.length ≤ 1048576
  rotate_left
  · rw [if_neg hlm] at HZ
    unfold stV reqV
    go_enter Tryz.func3, Tryz.ntmps3
    go_wp2_with fail
    refine (HZ.out _).mono ?_
    rintro e w1 ⟨rfl, rfl⟩
    have hbe := hbl
    go_wp2
    go_ret
    exact ⟨rfl, hbe⟩
  rw [if_pos hlm] at HZ
  have hN0 : ¬ (1048576 - (ms.length : Int) < 0) := by omega
  have HSz := Hid.intro (fun W => szAtm_any pw ph s.words.length s.holds.length cw ch (1048576 - (ms.length : Int)) W (by omega) (by omega) (by omega) (by omega))
  by_cases hls : (s.words.length : Int) + s.holds.length ≤ 1048576 - (ms.length : Int)
  rotate_left
  · rw [if_neg hls] at HSz
    unfold stV reqV
    go_enter Tryz.func3, Tryz.ntmps3
    go_wp2_with fail
    refine (HZ.out _).mono ?_
    rintro e w1 ⟨rfl, rfl⟩
    go_wp2_with fail
    refine (HSz.out _).mono ?_
    rintro e w1 ⟨rfl, hb1⟩
    have hbe := hbl.trans (hb1.mono hbl.size)
    clear hb1
    go_wp2
    go_ret
    exact ⟨rfl, hbe⟩
  rw [if_pos hls] at HSz
  have hN1 : ¬ (1048576 - (ms.length : Int) - s.words.length - s.holds.length < 0) := by omega
  have HQz := Hid.intro (fun W => szReq_any r pd pl cd cl (1048576 - (ms.length : Int) - s.words.length - s.holds.length) W (by omega) (by omega) (by omega) (by omega))
  have B5w : ∀ W, Below ((w.alloc (.cells #[.slice pw s.words.length cw, .slice ph s.holds.length ch] 27)).alloc (.cells #[.int .i64 r.id, .int .i64 r.kind, .int .i64 r.addr, .int .i64 r.many, .bool r.wrap, .slice pd r.data.length cd, .slice pl r.lanes.length cl] 29)).heap.size ((w.alloc (.cells #[.slice pw s.words.length cw, .slice ph s.holds.length ch] 27)).alloc (.cells #[.int .i64 r.id, .int .i64 r.kind, .int .i64 r.addr, .int .i64 r.many, .bool r.wrap, .slice pd r.data.length cd, .slice pl r.lanes.length cl] 29)) W →
      W.heap[w.heap.size]? = some (.cells #[.slice pw s.words.length cw, .slice ph s.holds.length ch] 27 (0, 0)) ∧ W.heap[w.heap.size + 1]? = some (.cells #[.int .i64 r.id, .int .i64 r.kind, .int .i64 r.addr, .int .i64 r.many, .bool r.wrap, .slice pd r.data.length cd, .slice pl r.lanes.length cl] 29 (0, 0)) := fun W hW =>
    ⟨(hW.block _ (by simp; omega)).trans ((Below.heap_alloc _ _ _ (by simp)).trans (nw_at _ rfl)), (hW.block _ (by simp)).trans (nw_at _ (by simp))⟩
  have HB5 := Hid.intro B5w
  clear B5w
  by_cases hlr : (r.data.length : Int) + r.lanes.length ≤ 1048576 - (ms.length : Int) - s.words.length - s.holds.length
  rotate_left
  · have hsz := szZ_no hlr
    unfold stV reqV
    go_enter Tryz.func3, Tryz.ntmps3
    go_wp2_with fail
    refine (HZ.out _).mono ?_
    rintro e w1 ⟨rfl, rfl⟩
    go_wp2_with fail
    refine (HSz.out _).mono ?_
    rintro e w1 ⟨rfl, hb1⟩
    have hbe := hbl.trans (hb1.mono hbl.size)
    obtain ⟨x5, x7⟩ := HB5.out w1 hb1
    have u0 : w1.cell? ⟨w.heap.size + 1, 0, none⟩ = some (.int .i64 r.id) := heap_cell x7 0
    have u1 : w1.cell? ⟨w.heap.size + 1, 1, none⟩ = some (.int .i64 r.kind) := heap_cell x7 1
    have u2 : w1.cell? ⟨w.heap.size + 1, 2, none⟩ = some (.int .i64 r.addr) := heap_cell x7 2
    have u3 : w1.cell? ⟨w.heap.size + 1, 3, none⟩ = some (.int .i64 r.many) := heap_cell x7 3
    have u4 : w1.cell? ⟨w.heap.size + 1, 4, none⟩ = some (.bool r.wrap) := heap_cell x7 4
    have u5 : w1.cell? ⟨w.heap.size + 1, 5, none⟩ = some (.slice pd r.data.length cd) := heap_cell x7 5
    have u6 : w1.cell? ⟨w.heap.size + 1, 6, none⟩ = some (.slice pl r.lanes.length cl) := heap_cell x7 6
    unfold reqV at HQz
    clear hb1 x5 x7
    go_wp2_with fail
    refine (HQz.out _).mono ?_
    rintro e w2 ⟨rfl, hb2⟩
    rw [hsz]
    replace hbe := hbe.trans (hb2.mono hbe.size)
    clear hb2 u0 u1 u2 u3 u4 u5 u6
    go_wp2
    go_ret
    exact ⟨rfl, hbe⟩
  have hsz := szZ_yes hlr
  have hN2 : ¬ (1048576 - (ms.length : Int) - s.words.length - s.holds.length - (r.data.length : Int) - (r.lanes.length : Int) < 0) := by omega
  have HL : Hid (ms.length ≤ 1048576 ∧ s.words.length ≤ 1048576 ∧ s.holds.length ≤ 1048576 ∧ r.data.length ≤ 1048576 ∧ r.lanes.length ≤ 1048576) := Hid.intro ⟨hlm, by omega, by omega, by omega, by omega⟩
  obtain ⟨zs, zr, hzz⟩ : ∃ zs zr, atmZ ms s who r = (zs, zr) := ⟨_, _, rfl⟩
  have HZZ := Hid.intro hzz
  clear hzz
  obtain ⟨KM, hKM⟩ : ∃ K : World → Value → Prop, K = kRw ms := ⟨_, rfl⟩
  obtain ⟨KS, hKS⟩ : ∃ K : World → Value → Prop, K = kCp s := ⟨_, rfl⟩
  obtain ⟨KR, hKR⟩ : ∃ K : World → Value → Prop, K = kRc r := ⟨_, rfl⟩
  have hMg : ∀ w w' v, Gr w w' → KM w v → KM w' v := by rw [hKM]; exact kRw_gr
  have hSg : ∀ w w' v, Gr w w' → KS w v → KS w' v := by rw [hKS]; exact kCp_gr
  have hRg : ∀ w w' v, Gr w w' → KR w v → KR w' v := by rw [hKR]; exact kRc_gr
  have hMt : ∀ (t : Nat) w w' v, (t = 35 ∨ t = 37) → KT t w w' → KM w v → KM w' v := by rw [hKM]; exact kRw_kt
  have hSt : ∀ (t : Nat) w w' v, (t = 35 ∨ t = 37) → KT t w w' → KS w v → KS w' v := by rw [hKS]; exact kCp_kt
  have hRt : ∀ (t : Nat) w w' v, (t = 35 ∨ t = 37) → KT t w w' → KR w v → KR w' v := by rw [hKR]; exact kRc_kt
  have HTM : Hid (∀ W, Below w.heap.size w W → Calls Tryz.prog 9 #[.slice a ms.length cap] W fun e w' => (∃ v, e = .returned v ∧ KM w' v) ∧ Below W.heap.size W w') := by
    refine Hid.intro (fun W hW => ?_)
    refine (toRows_own a cap ms W (HM.out.below hW) hc hc' HL.out.1).mono ?_
    rintro e w' ⟨rfl, h1, h2, _, _, cs, h3⟩
    exact ⟨⟨_, rfl, by rw [hKM]; exact ⟨_, cs, rfl, h1, h3⟩⟩, h2⟩
  have HTS : Hid (∀ W, Below w.heap.size w W → Calls Tryz.prog 10 #[.agg #[.slice pw s.words.length cw, .slice ph s.holds.length ch]] W fun e w' => (∃ v, e = .returned v ∧ KS w' v) ∧ Below W.heap.size W w') := by
    refine Hid.intro (fun W hW => ?_)
    have := toAtm_any s pw ph cw ch W (HS.out.below hW) HL.out.2.1 HL.out.2.2.1
    unfold stV at this
    refine this.mono ?_
    rintro e w' ⟨g, g', rfl, h1, h2, _, _, _, hb⟩
    exact ⟨⟨_, rfl, by rw [hKS]; exact ⟨g, g', rfl, h1, h2⟩⟩, hb⟩
  have HTR : Hid (∀ W, Below w.heap.size w W → Calls Tryz.prog 11 #[.agg #[.int .i64 r.id, .int .i64 r.kind, .int .i64 r.addr, .int .i64 r.many, .bool r.wrap, .slice pd r.data.length cd, .slice pl r.lanes.length cl]] W fun e w' => (∃ v, e = .returned v ∧ KR w' v) ∧ Below W.heap.size W w') := by
    refine Hid.intro (fun W hW => ?_)
    have := toReq_own r pd pl cd cl W (HR.out.below hW) HL.out.2.2.2.1 HL.out.2.2.2.2
    unfold reqV at this
    refine this.mono ?_
    rintro e w' ⟨g, g', rfl, _, _, _, hb, h1, h2, _⟩
    exact ⟨⟨_, rfl, by rw [hKR]; exact ⟨g, g', rfl, h1, h2⟩⟩, hb⟩
  have HKM := Hid.intro hKM
  have HKS := Hid.intro hKS
  have HKR := Hid.intro hKR
  clear hKM hKS hKR
  unfold stV reqV
  go_enter Tryz.func3, Tryz.ntmps3
  go_wp2_with fail
  refine (HZ.out _).mono ?_
  rintro e w1 ⟨rfl, rfl⟩
  go_wp2_with fail
  refine (HSz.out _).mono ?_
  rintro e w1 ⟨rfl, hb1⟩
  obtain ⟨x5, x7⟩ := HB5.out w1 hb1
  have u0 : w1.cell? ⟨w.heap.size + 1, 0, none⟩ = some (.int .i64 r.id) := heap_cell x7 0
  have u1 : w1.cell? ⟨w.heap.size + 1, 1, none⟩ = some (.int .i64 r.kind) := heap_cell x7 1
  have u2 : w1.cell? ⟨w.heap.size + 1, 2, none⟩ = some (.int .i64 r.addr) := heap_cell x7 2
  have u3 : w1.cell? ⟨w.heap.size + 1, 3, none⟩ = some (.int .i64 r.many) := heap_cell x7 3
  have u4 : w1.cell? ⟨w.heap.size + 1, 4, none⟩ = some (.bool r.wrap) := heap_cell x7 4
  have u5 : w1.cell? ⟨w.heap.size + 1, 5, none⟩ = some (.slice pd r.data.length cd) := heap_cell x7 5
  have u6 : w1.cell? ⟨w.heap.size + 1, 6, none⟩ = some (.slice pl r.lanes.length cl) := heap_cell x7 6
  unfold reqV at HQz
  have hb1' := hbl.trans (hb1.mono hbl.size)
  have HB1 := Hid.intro hb1
  clear hb1 x5 x7
  go_wp2_with fail
  refine (HQz.out _).mono ?_
  rintro e w3 ⟨rfl, hb3⟩
  rw [hsz]
  have HBW3 := Hid.intro (hb1'.trans (hb3.mono hb1'.size))
  have hx := HB5.out w3 (HB1.out.trans (hb3.mono HB1.out.size))
  obtain ⟨A5, eA5⟩ : ∃ A, A = w.heap.size := ⟨_, rfl⟩
  obtain ⟨A7, eA7⟩ : ∃ A, A = w.heap.size + 1 := ⟨_, rfl⟩
  rw [← eA7] at hx ⊢
  rw [← eA5] at hx ⊢
  have H5 := Hid.intro hx.1
  have H7 := Hid.intro hx.2
  have hl5 := heap_lt hx.1
  have hl7 := heap_lt hx.2
  clear hx hb3 hb1' HB1 HB5 eA5 eA7 u0 u1 u2 u3 u4 u5 u6 HZ HSz HQz hbl
  obtain ⟨K5, hK5⟩ : ∃ K5 : World → Value → Prop, K5 = kOut w3.heap.size zs zr := ⟨_, rfl⟩
  have h5g : ∀ w w' v, Gr w w' → K5 w v → K5 w' v := by rw [hK5]; exact kOut_gr
  have h5ta : ∀ w w' v, KT 35 w w' → K5 w v → K5 w' v := by rw [hK5]; exact kOut_kt (by decide)
  have h5tb : ∀ w w' v, KT 37 w w' → K5 w v → K5 w' v := by rw [hK5]; exact kOut_kt (by decide)
  have h5t : ∀ W v, K5 W v → ∃ va vb, v = .tuple #[va, vb] := by rw [hK5]; exact kOut_t
  have h5s : ∀ W v, K5 W v → ∃ p0 n0 k0 p1 n1 k1 v2, v = .tuple #[.agg #[.slice p0 n0 k0, .slice p1 n1 k1], v2] := by rw [hK5]; exact kOut_s
  have h5x : ∀ W v, K5 W v → ∃ va i0 i1 p2 n2 k2, v = .tuple #[va, .agg #[.int .i64 i0, .int .i64 i1, .slice p2 n2 k2]] := by rw [hK5]; exact kOut_x
  have HTM3 : Hid (∀ W, Below w3.heap.size w3 W → Calls Tryz.prog 9 #[.slice a ms.length cap] W fun e w' => (∃ v, e = .returned v ∧ KM w' v) ∧ Below W.heap.size W w') := Hid.intro (fun W hW => HTM.out W (HBW3.out.trans (hW.mono HBW3.out.size)))
  have HTS3 : Hid (∀ W, Below w3.heap.size w3 W → Calls Tryz.prog 10 #[.agg #[.slice pw s.words.length cw, .slice ph s.holds.length ch]] W fun e w' => (∃ v, e = .returned v ∧ KS w' v) ∧ Below W.heap.size W w') := Hid.intro (fun W hW => HTS.out W (HBW3.out.trans (hW.mono HBW3.out.size)))
  have HTR3 : Hid (∀ W, Below w3.heap.size w3 W → Calls Tryz.prog 11 #[.agg #[.int .i64 r.id, .int .i64 r.kind, .int .i64 r.addr, .int .i64 r.many, .bool r.wrap, .slice pd r.data.length cd, .slice pl r.lanes.length cl]] W fun e w' => (∃ v, e = .returned v ∧ KR w' v) ∧ Below W.heap.size W w') := Hid.intro (fun W hW => HTR.out W (HBW3.out.trans (hW.mono HBW3.out.size)))
  have HDO3 : Hid (∀ vM vS vR W, Below w3.heap.size w3 W → KM W vM → KS W vS → KR W vR → Calls Tryz.prog 8 #[vM, vS, .int .i64 who, vR] W fun e w' => (∃ v, e = .returned v ∧ K5 w' v) ∧ Below W.heap.size W w') := by
    refine Hid.intro (fun vM vS vR W hW h1 h2 h3 => ?_)
    rw [HKM.out] at h1
    rw [HKS.out] at h2
    rw [HKR.out] at h3
    rw [hK5]
    exact do_kinds spec_AtmDo HZZ.out HL.out.1 HL.out.2.1 HL.out.2.2.1 HL.out.2.2.2.1 HL.out.2.2.2.2 _ vM vS vR W hW.size h1 h2 h3
  have HK5 := Hid.intro hK5
  clear hK5
  go_wp2_with fail
  refine wp_region_fl (by kernel_rfl) (fl_xda (.slice a ms.length cap) (.agg #[.slice pw s.words.length cw, .slice ph s.holds.length ch]) (.int .i64 who) (.agg #[.int .i64 r.id, .int .i64 r.kind, .int .i64 r.addr, .int .i64 r.many, .bool r.wrap, .slice pd r.data.length cd, .slice pl r.lanes.length cl]) A5 A7 KM KS KR w3.heap.size K5) (fun _ => Below w3.heap.size w3) [38, 39, 40, 41, 42, 43, 44, 45, 37, 46, 47, 10, 11] (by kernel_rfl) (by kernel_rfl) (by kernel_rfl) ?c0 ?looks ?done
  case looks =>
    intro hcl i o ho
    rcases i with _ | _ | _ | _ | _ | _ | _ | _ | _ | _ | _ | _ | _ | _ | _ | i
    · simp at ho; subst ho
      refine fo_det (st_xda (.slice a ms.length cap) (.agg #[.slice pw s.words.length cw, .slice ph s.holds.length ch]) (.int .i64 who) (.agg #[.int .i64 r.id, .int .i64 r.kind, .int .i64 r.addr, .int .i64 r.many, .bool r.wrap, .slice pd r.data.length cd, .slice pl r.lanes.length cl]) A5 A7 KM KS KR w3.heap.size K5 h5g hMg hMt hSg hSt hRg hRt) hcl rfl rfl rfl rfl (by kernel_rfl) (fun _ _ h => h) (fun done ρ W hat => ?_)
      have e0 : ρ (.tmp 0) = (.slice a ms.length cap) := hat.out 0 (by kernel_rfl)
      have hC := hat.cls
      have hc := hat.con
      simp only [execOp, e0]
      go_simp
    · simp at ho; subst ho
      refine fo_grow (st_xda (.slice a ms.length cap) (.agg #[.slice pw s.words.length cw, .slice ph s.holds.length ch]) (.int .i64 who) (.agg #[.int .i64 r.id, .int .i64 r.kind, .int .i64 r.addr, .int .i64 r.many, .bool r.wrap, .slice pd r.data.length cd, .slice pl r.lanes.length cl]) A5 A7 KM KS KR w3.heap.size K5 h5g hMg hMt hSg hSt hRg hRt) hcl rfl rfl (fun done ρ W hat => ?_)
      have e38 : ρ (.tmp 38) = .slice a ms.length cap := fIs_at (d := 38) (v := .slice a ms.length cap) (hat.fact 0 (by kernel_rfl))
      have hC := hat.cls
      have hf := hat.fn
      refine up_call 9 #[.slice a ms.length cap] (by simp only [execOp]; go_simp) ?_
      refine (HTM3.out W hC).mono ?_
      rintro e W1 ⟨⟨v, rfl, hKv⟩, hb⟩
      exact ⟨v, rfl, hC.trans (hb.mono hC.size), hb, fK_mk (by rw [updV_same]; exact hKv), free_spec (by kernel_rfl) hat.lt⟩
    · simp at ho; subst ho
      refine fo_det (st_xda (.slice a ms.length cap) (.agg #[.slice pw s.words.length cw, .slice ph s.holds.length ch]) (.int .i64 who) (.agg #[.int .i64 r.id, .int .i64 r.kind, .int .i64 r.addr, .int .i64 r.many, .bool r.wrap, .slice pd r.data.length cd, .slice pl r.lanes.length cl]) A5 A7 KM KS KR w3.heap.size K5 h5g hMg hMt hSg hSt hRg hRt) hcl rfl rfl rfl rfl (by kernel_rfl) (fun _ _ h => h) (fun done ρ W hat => ?_)
      have e5 : ρ (.tmp 5) = .pointer (some ⟨A5, 0, none⟩) := hat.out 5 (by kernel_rfl)
      have hC := hat.cls
      have hbx := (hC.block _ hl5).trans H5.out
      have c0 := (heap_cell hbx 0).trans rfl
      have c1 := (heap_cell hbx 1).trans rfl
      have hc := hat.con
      simp only [execOp, e5]
      go_simp
    · simp at ho; subst ho
      refine fo_grow (st_xda (.slice a ms.length cap) (.agg #[.slice pw s.words.length cw, .slice ph s.holds.length ch]) (.int .i64 who) (.agg #[.int .i64 r.id, .int .i64 r.kind, .int .i64 r.addr, .int .i64 r.many, .bool r.wrap, .slice pd r.data.length cd, .slice pl r.lanes.length cl]) A5 A7 KM KS KR w3.heap.size K5 h5g hMg hMt hSg hSt hRg hRt) hcl rfl rfl (fun done ρ W hat => ?_)
      have e40 : ρ (.tmp 40) = .agg #[.slice pw s.words.length cw, .slice ph s.holds.length ch] := fIs_at (d := 40) (v := .agg #[.slice pw s.words.length cw, .slice ph s.holds.length ch]) (hat.fact 2 (by kernel_rfl))
      have hC := hat.cls
      have hf := hat.fn
      refine up_call 10 #[.agg #[.slice pw s.words.length cw, .slice ph s.holds.length ch]] (by simp only [execOp]; go_simp) ?_
      refine (HTS3.out W hC).mono ?_
      rintro e W1 ⟨⟨v, rfl, hKv⟩, hb⟩
      exact ⟨v, rfl, hC.trans (hb.mono hC.size), hb, fK_mk (by rw [updV_same]; exact hKv), free_spec (by kernel_rfl) hat.lt⟩
    · simp at ho; subst ho
      refine fo_det (st_xda (.slice a ms.length cap) (.agg #[.slice pw s.words.length cw, .slice ph s.holds.length ch]) (.int .i64 who) (.agg #[.int .i64 r.id, .int .i64 r.kind, .int .i64 r.addr, .int .i64 r.many, .bool r.wrap, .slice pd r.data.length cd, .slice pl r.lanes.length cl]) A5 A7 KM KS KR w3.heap.size K5 h5g hMg hMt hSg hSt hRg hRt) hcl rfl rfl rfl rfl (by kernel_rfl) (fun _ _ h => h) (fun done ρ W hat => ?_)
      have e2 : ρ (.tmp 2) = (.int .i64 who) := hat.out 2 (by kernel_rfl)
      have hC := hat.cls
      have hc := hat.con
      simp only [execOp, e2]
      go_simp
    · simp at ho; subst ho
      refine fo_det (st_xda (.slice a ms.length cap) (.agg #[.slice pw s.words.length cw, .slice ph s.holds.length ch]) (.int .i64 who) (.agg #[.int .i64 r.id, .int .i64 r.kind, .int .i64 r.addr, .int .i64 r.many, .bool r.wrap, .slice pd r.data.length cd, .slice pl r.lanes.length cl]) A5 A7 KM KS KR w3.heap.size K5 h5g hMg hMt hSg hSt hRg hRt) hcl rfl rfl rfl rfl (by kernel_rfl) (fun _ _ h => h) (fun done ρ W hat => ?_)
      have e7 : ρ (.tmp 7) = .pointer (some ⟨A7, 0, none⟩) := hat.out 7 (by kernel_rfl)
      have hC := hat.cls
      have hbx := (hC.block _ hl7).trans H7.out
      have c0 := (heap_cell hbx 0).trans rfl
      have c1 := (heap_cell hbx 1).trans rfl
      have c2 := (heap_cell hbx 2).trans rfl
      have c3 := (heap_cell hbx 3).trans rfl
      have c4 := (heap_cell hbx 4).trans rfl
      have c5 := (heap_cell hbx 5).trans rfl
      have c6 := (heap_cell hbx 6).trans rfl
      have hc := hat.con
      simp only [execOp, e7]
      go_simp
    · simp at ho; subst ho
      refine fo_grow (st_xda (.slice a ms.length cap) (.agg #[.slice pw s.words.length cw, .slice ph s.holds.length ch]) (.int .i64 who) (.agg #[.int .i64 r.id, .int .i64 r.kind, .int .i64 r.addr, .int .i64 r.many, .bool r.wrap, .slice pd r.data.length cd, .slice pl r.lanes.length cl]) A5 A7 KM KS KR w3.heap.size K5 h5g hMg hMt hSg hSt hRg hRt) hcl rfl rfl (fun done ρ W hat => ?_)
      have e43 : ρ (.tmp 43) = .agg #[.int .i64 r.id, .int .i64 r.kind, .int .i64 r.addr, .int .i64 r.many, .bool r.wrap, .slice pd r.data.length cd, .slice pl r.lanes.length cl] := fIs_at (d := 43) (v := .agg #[.int .i64 r.id, .int .i64 r.kind, .int .i64 r.addr, .int .i64 r.many, .bool r.wrap, .slice pd r.data.length cd, .slice pl r.lanes.length cl]) (hat.fact 5 (by kernel_rfl))
      have hC := hat.cls
      have hf := hat.fn
      refine up_call 11 #[.agg #[.int .i64 r.id, .int .i64 r.kind, .int .i64 r.addr, .int .i64 r.many, .bool r.wrap, .slice pd r.data.length cd, .slice pl r.lanes.length cl]] (by simp only [execOp]; go_simp) ?_
      refine (HTR3.out W hC).mono ?_
      rintro e W1 ⟨⟨v, rfl, hKv⟩, hb⟩
      exact ⟨v, rfl, hC.trans (hb.mono hC.size), hb, fK_mk (by rw [updV_same]; exact hKv), free_spec (by kernel_rfl) hat.lt⟩
    · simp at ho; subst ho
      refine fo_grow (st_xda (.slice a ms.length cap) (.agg #[.slice pw s.words.length cw, .slice ph s.holds.length ch]) (.int .i64 who) (.agg #[.int .i64 r.id, .int .i64 r.kind, .int .i64 r.addr, .int .i64 r.many, .bool r.wrap, .slice pd r.data.length cd, .slice pl r.lanes.length cl]) A5 A7 KM KS KR w3.heap.size K5 h5g hMg hMt hSg hSt hRg hRt) hcl rfl rfl (fun done ρ W hat => ?_)
      have e42 : ρ (.tmp 42) = (.int .i64 who) := fIs_at (d := 42) (v := (.int .i64 who)) (hat.fact 4 (by kernel_rfl))
      have hC := hat.cls
      have hf := hat.fn
      have qM : KM W (ρ (.tmp 39)) := fK_at (d := 39) (K := KM) (hat.fact 1 (by kernel_rfl))
      obtain ⟨vM, eM⟩ : ∃ v, ρ (.tmp 39) = v := ⟨_, rfl⟩
      rw [eM] at qM
      have qS : KS W (ρ (.tmp 41)) := fK_at (d := 41) (K := KS) (hat.fact 3 (by kernel_rfl))
      obtain ⟨vS, eS⟩ : ∃ v, ρ (.tmp 41) = v := ⟨_, rfl⟩
      rw [eS] at qS
      have qR : KR W (ρ (.tmp 44)) := fK_at (d := 44) (K := KR) (hat.fact 6 (by kernel_rfl))
      obtain ⟨vR, eR⟩ : ∃ v, ρ (.tmp 44) = v := ⟨_, rfl⟩
      rw [eR] at qR
      refine up_call 8 #[vM, vS, .int .i64 who, vR] (by simp only [execOp]; go_simp) ?_
      refine (HDO3.out vM vS vR W hC qM qS qR).mono ?_
      rintro e W1 ⟨⟨v, rfl, hKv⟩, hb⟩
      exact ⟨v, rfl, hC.trans (hb.mono hC.size), hb, fK_mk (by rw [updV_same]; exact hKv), free_spec (by kernel_rfl) hat.lt⟩
    · simp at ho; subst ho
      refine fo_grow (st_xda (.slice a ms.length cap) (.agg #[.slice pw s.words.length cw, .slice ph s.holds.length ch]) (.int .i64 who) (.agg #[.int .i64 r.id, .int .i64 r.kind, .int .i64 r.addr, .int .i64 r.many, .bool r.wrap, .slice pd r.data.length cd, .slice pl r.lanes.length cl]) A5 A7 KM KS KR w3.heap.size K5 h5g hMg hMt hSg hSt hRg hRt) hcl rfl rfl (fun done ρ W hat => ?_)
      have hC := hat.cls
      have hK : K5 W (ρ (.tmp 45)) := (fK_at (d := 45) (K := K5) (hat.fact 7 (by kernel_rfl)))
      refine up_val (ρ (.tmp 45)) W (by simp only [execOp]; go_simp) ⟨hC, Gr.refl _, fK_mk (by rw [updV_same]; exact hK), free_spec (by kernel_rfl) hat.lt⟩
    · simp at ho; subst ho
      refine fo_grow (st_xda (.slice a ms.length cap) (.agg #[.slice pw s.words.length cw, .slice ph s.holds.length ch]) (.int .i64 who) (.agg #[.int .i64 r.id, .int .i64 r.kind, .int .i64 r.addr, .int .i64 r.many, .bool r.wrap, .slice pd r.data.length cd, .slice pl r.lanes.length cl]) A5 A7 KM KS KR w3.heap.size K5 h5g hMg hMt hSg hSt hRg hRt) hcl rfl rfl (fun done ρ W hat => ?_)
      have hC := hat.cls
      have hK : K5 W (ρ (.tmp 37)) := (fK_at (d := 37) (K := K5) (hat.fact 8 (by kernel_rfl)))
      obtain ⟨va, vb, em⟩ := h5t _ _ hK
      refine up_val va W (by simp only [execOp]; go_simp) ⟨hC, Gr.refl _, ⟨vb, ?_⟩, free_spec (by kernel_rfl) hat.lt⟩
      exact em
    · simp at ho; subst ho
      refine fo_grow (st_xda (.slice a ms.length cap) (.agg #[.slice pw s.words.length cw, .slice ph s.holds.length ch]) (.int .i64 who) (.agg #[.int .i64 r.id, .int .i64 r.kind, .int .i64 r.addr, .int .i64 r.many, .bool r.wrap, .slice pd r.data.length cd, .slice pl r.lanes.length cl]) A5 A7 KM KS KR w3.heap.size K5 h5g hMg hMt hSg hSt hRg hRt) hcl rfl rfl (fun done ρ W hat => ?_)
      have hC := hat.cls
      have hK : K5 W (ρ (.tmp 37)) := (fK_at (d := 37) (K := K5) (hat.fact 8 (by kernel_rfl)))
      obtain ⟨va, vb, em⟩ := h5t _ _ hK
      refine up_val vb W (by simp only [execOp]; go_simp) ⟨hC, Gr.refl _, ⟨va, ?_⟩, free_spec (by kernel_rfl) hat.lt⟩
      exact em
    · simp at ho; subst ho
      refine fo_grow (st_xda (.slice a ms.length cap) (.agg #[.slice pw s.words.length cw, .slice ph s.holds.length ch]) (.int .i64 who) (.agg #[.int .i64 r.id, .int .i64 r.kind, .int .i64 r.addr, .int .i64 r.many, .bool r.wrap, .slice pd r.data.length cd, .slice pl r.lanes.length cl]) A5 A7 KM KS KR w3.heap.size K5 h5g hMg hMt hSg hSt hRg hRt) hcl rfl rfl (fun done ρ W hat => ?_)
      have hC := hat.cls
      refine up_val (.pointer (some ⟨W.heap.size, 0, none⟩)) (W.alloc (.cells #[.slice none 0 0, .slice none 0 0] 35)) (by simp only [execOp]; go_simp) ⟨hC.trans ((below_nw _ _).mono hC.size), below_nw _ _, ⟨W.heap.size, _, _, ?_, hC.size, nw_at _ rfl⟩, free_spec (by kernel_rfl) hat.lt⟩
      exact rfl
    · simp at ho; subst ho
      refine fo_grow (st_xda (.slice a ms.length cap) (.agg #[.slice pw s.words.length cw, .slice ph s.holds.length ch]) (.int .i64 who) (.agg #[.int .i64 r.id, .int .i64 r.kind, .int .i64 r.addr, .int .i64 r.many, .bool r.wrap, .slice pd r.data.length cd, .slice pl r.lanes.length cl]) A5 A7 KM KS KR w3.heap.size K5 h5g hMg hMt hSg hSt hRg hRt) hcl rfl rfl (fun done ρ W hat => ?_)
      have hC := hat.cls
      refine up_val (.pointer (some ⟨W.heap.size, 0, none⟩)) (W.alloc (.cells #[.int .i64 0, .int .i64 0, .slice none 0 0] 37)) (by simp only [execOp]; go_simp) ⟨hC.trans ((below_nw _ _).mono hC.size), below_nw _ _, ⟨W.heap.size, _, _, _, ?_, hC.size, nw_at _ rfl⟩, free_spec (by kernel_rfl) hat.lt⟩
      exact rfl
    · simp at ho; subst ho
      refine fo_rel (S := KT 35) (E := [11, 13]) (kta_xda (.slice a ms.length cap) (.agg #[.slice pw s.words.length cw, .slice ph s.holds.length ch]) (.int .i64 who) (.agg #[.int .i64 r.id, .int .i64 r.kind, .int .i64 r.addr, .int .i64 r.many, .bool r.wrap, .slice pd r.data.length cd, .slice pl r.lanes.length cl]) A5 A7 KM KS KR w3.heap.size K5 h5ta hMg hMt hSg hSt hRg hRt) hcl rfl rfl (fun done ρ W hat => ?_)
      have hC := hat.cls
      have hK : K5 W (ρ (.tmp 37)) := (fK_at (d := 37) (K := K5) (hat.fact 8 (by kernel_rfl)))
      obtain ⟨bb, ex⟩ := hat.fact 9 (by kernel_rfl)
      obtain ⟨b, o0, o1, eb, hMb, hbx⟩ := hat.fact 11 (by kernel_rfl)
      have ex : ρ (.tmp 37) = .tuple #[ρ (.tmp 46), bb] := ex
      have eb : ρ (.tmp 10) = .pointer (some ⟨b, 0, none⟩) := eb
      obtain ⟨p0, n0, k0, p1, n1, k1, v2, ev⟩ := h5s _ _ hK
      rw [ev] at ex
      simp only [Value.tuple.injEq, List.toArray_inj, Array.mk.injEq, List.cons.injEq] at ex
      have ex : ρ (.tmp 46) = .agg #[.slice p0 n0 k0, .slice p1 n1 k1] := ex.1.symm
      have hR1 := heap_set hbx 0 (.slice p0 n0 k0)
      refine up_store2 rfl eb ex hbx ⟨(hC.setCell (p := ⟨b, 0, none⟩) hMb _).setCell (p := ⟨b, 1, none⟩) hMb _, (KT.set hbx _).trans (KT.set hR1 _), ⟨b, _, _, eb, hMb, ex, (heap_set hR1 1 _).trans rfl⟩, fun j hj hcj => ?_⟩
      rcases aska_xda j (hat.lt j hj) hcj with rfl | rfl
      · exact ⟨b, _, _, eb, hMb, (heap_set hR1 1 _).trans rfl⟩
      · rw [hat.new] at hj; cases hj
    · simp at ho; subst ho
      refine fo_rel (S := KT 37) (E := [12, 14]) (ktb_xda (.slice a ms.length cap) (.agg #[.slice pw s.words.length cw, .slice ph s.holds.length ch]) (.int .i64 who) (.agg #[.int .i64 r.id, .int .i64 r.kind, .int .i64 r.addr, .int .i64 r.many, .bool r.wrap, .slice pd r.data.length cd, .slice pl r.lanes.length cl]) A5 A7 KM KS KR w3.heap.size K5 h5tb hMg hMt hSg hSt hRg hRt) hcl rfl rfl (fun done ρ W hat => ?_)
      have hC := hat.cls
      have hK : K5 W (ρ (.tmp 37)) := (fK_at (d := 37) (K := K5) (hat.fact 8 (by kernel_rfl)))
      obtain ⟨bb, ex⟩ := hat.fact 10 (by kernel_rfl)
      obtain ⟨b, o0, o1, o2, eb, hMb, hbx⟩ := hat.fact 12 (by kernel_rfl)
      have ex : ρ (.tmp 37) = .tuple #[bb, ρ (.tmp 47)] := ex
      have eb : ρ (.tmp 11) = .pointer (some ⟨b, 0, none⟩) := eb
      obtain ⟨va, i0, i1, p2, n2, k2, ev⟩ := h5x _ _ hK
      rw [ev] at ex
      simp only [Value.tuple.injEq, List.toArray_inj, Array.mk.injEq, List.cons.injEq] at ex
      have ex : ρ (.tmp 47) = .agg #[.int .i64 i0, .int .i64 i1, .slice p2 n2 k2] := ex.2.1.symm
      have hR1 := heap_set hbx 0 (.int .i64 i0)
      have hR2 := heap_set hR1 1 (.int .i64 i1)
      refine up_store3 rfl eb ex hbx ⟨((hC.setCell (p := ⟨b, 0, none⟩) hMb _).setCell (p := ⟨b, 1, none⟩) hMb _).setCell (p := ⟨b, 2, none⟩) hMb _, ((KT.set hbx _).trans (KT.set hR1 _)).trans (KT.set hR2 _), ⟨b, _, _, _, eb, hMb, ex, (heap_set hR2 2 _).trans rfl⟩, fun j hj hcj => ?_⟩
      rcases askb_xda j (hat.lt j hj) hcj with rfl | rfl
      · exact ⟨b, _, _, _, eb, hMb, (heap_set hR2 2 _).trans rfl⟩
      · rw [hat.new] at hj; cases hj
    · simp at ho
  case c0 => exact (Below.refl _ _).drew
  case done =>
    intro f w4 hC hf hout
    have hK : K5 w4 (f 37) := fK_at (d := 37) (K := K5) (hf 8 (by decide))
    obtain ⟨vb, ex0⟩ : ∃ b, f 37 = .tuple #[f 46, b] := hf 9 (by decide)
    obtain ⟨va, ex1⟩ : ∃ b, f 37 = .tuple #[b, f 47] := hf 10 (by decide)
    obtain ⟨P, u0, u1, eb0, hM0, ev0, H0⟩ : ∃ b v0 v1, f 10 = .pointer (some ⟨b, 0, none⟩) ∧ w3.heap.size ≤ b ∧ f 46 = .agg #[v0, v1] ∧ w4.heap[b]? = some (.cells #[v0, v1] 35 (0, 0)) := hf 13 (by decide)
    obtain ⟨O, t0, t1, t2, eb1, hM1, ev1, H1⟩ : ∃ b v0 v1 v2, f 11 = .pointer (some ⟨b, 0, none⟩) ∧ w3.heap.size ≤ b ∧ f 47 = .agg #[v0, v1, v2] ∧ w4.heap[b]? = some (.cells #[v0, v1, v2] 37 (0, 0)) := hf 14 (by decide)
    rw [HK5.out] at hK
    obtain ⟨mw, mm, mh, mn, mx, mk, eK, hOm⟩ := hK
    rw [eK] at ex0 ex1
    simp only [Value.tuple.injEq, List.toArray_inj, Array.mk.injEq, List.cons.injEq] at ex0 ex1
    rw [← ex0.1] at ev0
    rw [← ex1.2.1] at ev1
    cases ev0
    cases ev1
    have HOm := Hid.intro hOm
    have HBm0 := Hid.intro H0
    have HBm1 := Hid.intro H1
    have lm0 := heap_lt H0
    have lm1 := heap_lt H1
    have HCm := Hid.intro hC
    clear hf hout ex0 ex1 eK hOm H0 H1 h5g h5ta h5tb h5t h5s h5x HK5 hC
    simp only [fill, eb0, eb1]
    go_simp
    clear eb0 eb1
    have HBW4 := Hid.intro (HBW3.out.trans (HCm.out.mono HBW3.out.size))
    have H54 := Hid.intro ((HCm.out.block _ hl5).trans H5.out)
    have H74 := Hid.intro ((HCm.out.block _ hl7).trans H7.out)
    have s4 := HCm.out.size
    have hl54 : A5 < w4.heap.size := by omega
    have hl74 : A7 < w4.heap.size := by omega
    clear H5 H7 hl5 hl7 HCm HBW3 s4 hM0 hM1 HTM3 HTS3 HTR3 HDO3
    go_wp2_with fail
    refine (toRows_own a cap ms w4 (HM.out.below HBW4.out) hc hc' HL.out.1).mono ?_
    rintro e w5 ⟨rfl, hx0, hb5, hlt5, hP5, cs5, hcs5⟩
    have hN5 := hb5
    have s5 := hb5.size
    have H55 := (hb5.block _ hl54).trans H54.out
    have a0 : w5.cell? ⟨A5, 0, none⟩ = some (.slice pw s.words.length cw) := heap_cell (H55) 0
    have a1 : w5.cell? ⟨A5, 1, none⟩ = some (.slice ph s.holds.length ch) := heap_cell (H55) 1
    have HX0 := Hid.intro (And.intro hx0 hP5)
    clear hx0 hP5 hcs5 hb5
    have HTA := Hid.intro (toAtm_any s pw ph cw ch w5 (HS.out.below (HBW4.out.trans (hN5.mono HBW4.out.size))) HL.out.2.1 HL.out.2.2.1)
    unfold stV at HTA
    go_wp2_with fail
    refine HTA.out.mono ?_
    rintro e w6 ⟨g1, g2, rfl, o1, o2, m1, m2, ne12, hb6⟩
    have s6 := hb6.size
    have hN6 := hN5.trans (hb6.mono s5)
    have g1l := o1.lt
    have g2l := o2.lt
    have H76 := (hN6.block _ hl74).trans H74.out
    have gr6 := below_nw w6 (.cells #[.slice (some ⟨g1, 0, none⟩) s.words.length s.words.length, .slice (some ⟨g2, 0, none⟩) s.holds.length s.holds.length] 35)
    have H76' := gr6.cells H76
    have b0 : (w6.alloc (.cells #[.slice (some ⟨g1, 0, none⟩) s.words.length s.words.length, .slice (some ⟨g2, 0, none⟩) s.holds.length s.holds.length] 35)).cell? ⟨A7, 0, none⟩ = some (.int .i64 r.id) := heap_cell (H76') 0
    have b1 : (w6.alloc (.cells #[.slice (some ⟨g1, 0, none⟩) s.words.length s.words.length, .slice (some ⟨g2, 0, none⟩) s.holds.length s.holds.length] 35)).cell? ⟨A7, 1, none⟩ = some (.int .i64 r.kind) := heap_cell (H76') 1
    have b2 : (w6.alloc (.cells #[.slice (some ⟨g1, 0, none⟩) s.words.length s.words.length, .slice (some ⟨g2, 0, none⟩) s.holds.length s.holds.length] 35)).cell? ⟨A7, 2, none⟩ = some (.int .i64 r.addr) := heap_cell (H76') 2
    have b3 : (w6.alloc (.cells #[.slice (some ⟨g1, 0, none⟩) s.words.length s.words.length, .slice (some ⟨g2, 0, none⟩) s.holds.length s.holds.length] 35)).cell? ⟨A7, 3, none⟩ = some (.int .i64 r.many) := heap_cell (H76') 3
    have b4 : (w6.alloc (.cells #[.slice (some ⟨g1, 0, none⟩) s.words.length s.words.length, .slice (some ⟨g2, 0, none⟩) s.holds.length s.holds.length] 35)).cell? ⟨A7, 4, none⟩ = some (.bool r.wrap) := heap_cell (H76') 4
    have b5 : (w6.alloc (.cells #[.slice (some ⟨g1, 0, none⟩) s.words.length s.words.length, .slice (some ⟨g2, 0, none⟩) s.holds.length s.holds.length] 35)).cell? ⟨A7, 5, none⟩ = some (.slice pd r.data.length cd) := heap_cell (H76') 5
    have b6 : (w6.alloc (.cells #[.slice (some ⟨g1, 0, none⟩) s.words.length s.words.length, .slice (some ⟨g2, 0, none⟩) s.holds.length s.holds.length] 35)).cell? ⟨A7, 6, none⟩ = some (.slice pl r.lanes.length cl) := heap_cell (H76') 6
    have HTQ := Hid.intro (toReq_own r pd pl cd cl (w6.alloc (.cells #[.slice (some ⟨g1, 0, none⟩) s.words.length s.words.length, .slice (some ⟨g2, 0, none⟩) s.holds.length s.holds.length] 35)) (HR.out.below (HBW4.out.trans ((hN6.trans (gr6.mono hN6.size)).mono HBW4.out.size))) HL.out.2.2.2.1 HL.out.2.2.2.2)
    unfold reqV at HTQ
    have HX0' := Hid.intro (And.intro (HX0.out.1.below hb6) (HX0.out.2.below (by omega) hb6))
    have HO12 := Hid.intro (And.intro o1 o2)
    have hX16 : (w6.alloc (.cells #[.slice (some ⟨g1, 0, none⟩) s.words.length s.words.length, .slice (some ⟨g2, 0, none⟩) s.holds.length s.holds.length] 35)).heap[w6.heap.size]? = some (.cells #[.slice (some ⟨g1, 0, none⟩) s.words.length s.words.length, .slice (some ⟨g2, 0, none⟩) s.holds.length s.holds.length] 35 (0, 0)) := nw_at _ rfl
    have HG6 := Hid.intro (And.intro gr6 hX16)
    clear H55 HTA a0 a1 hb6 H76 H76' gr6 hX16 o1 o2 HX0
    go_wp2_with fail
    refine HTQ.out.mono ?_
    rintro e w7 ⟨q1, q2, rfl, _, n1, n2, hb7, o3, o4, neq⟩
    have s7 := hb7.size
    simp only [World.size_alloc] at s7 n1 n2
    have hN7 := (hN6.trans (HG6.out.1.mono hN6.size)).trans (hb7.mono (by simp; omega))
    have HX17 := Hid.intro ((hb7.block _ (by simp)).trans HG6.out.2)
    obtain ⟨X1, eX1⟩ : ∃ X, X = w6.heap.size := ⟨_, rfl⟩
    rw [← eX1] at HX17 ⊢
    have HO127 := Hid.intro (And.intro (HO12.out.1.of ((hb7.block _ (by simp; omega)).trans (HG6.out.1.block _ g1l))) (HO12.out.2.of ((hb7.block _ (by simp; omega)).trans (HG6.out.1.block _ g2l))))
    have HX07 := Hid.intro (And.intro ((HX0'.out.1.below HG6.out.1).below hb7) ((HX0'.out.2.below (by omega) HG6.out.1).below (by simp; omega) hb7))
    have q1l := o3.lt
    have q2l := o4.lt
    have HO34 := Hid.intro (And.intro o3 o4)
    have X1l : X1 < w7.heap.size := by omega
    have g1X : g1 < X1 := by omega
    have g2X : g2 < X1 := by omega
    have n0X : w4.heap.size < X1 := by omega
    have q1X : X1 < q1 := by omega
    have q2X : X1 < q2 := by omega
    clear eX1 b0 b1 b2 b3 b4 b5 b6 HTQ hb7 HG6 HO12 HX0' o3 o4 hN6 hN5
    have gr7 := below_nw w7 (.cells #[.int .i64 r.id, .int .i64 r.kind, .int .i64 r.addr, .int .i64 r.many, .bool r.wrap, .slice (some ⟨q1, 0, none⟩) r.data.length r.data.length, .slice (some ⟨q2, 0, none⟩) r.lanes.length r.lanes.length] 43)
    have H17' := gr7.cells HX17.out
    have a0 : (w7.alloc (.cells #[.int .i64 r.id, .int .i64 r.kind, .int .i64 r.addr, .int .i64 r.many, .bool r.wrap, .slice (some ⟨q1, 0, none⟩) r.data.length r.data.length, .slice (some ⟨q2, 0, none⟩) r.lanes.length r.lanes.length] 43)).cell? ⟨X1, 0, none⟩ = some (.slice (some ⟨g1, 0, none⟩) s.words.length s.words.length) := heap_cell (H17') 0
    have a1 : (w7.alloc (.cells #[.int .i64 r.id, .int .i64 r.kind, .int .i64 r.addr, .int .i64 r.many, .bool r.wrap, .slice (some ⟨q1, 0, none⟩) r.data.length r.data.length, .slice (some ⟨q2, 0, none⟩) r.lanes.length r.lanes.length] 43)).cell? ⟨X1, 1, none⟩ = some (.slice (some ⟨g2, 0, none⟩) s.holds.length s.holds.length) := heap_cell (H17') 1
    have hDO := HC.out (some ⟨w4.heap.size, 0, none⟩) ms.length ms s (some ⟨g1, 0, none⟩) (some ⟨g2, 0, none⟩) s.words.length s.holds.length who r (some ⟨q1, 0, none⟩) (some ⟨q2, 0, none⟩) r.data.length r.lanes.length (w7.alloc (.cells #[.int .i64 r.id, .int .i64 r.kind, .int .i64 r.addr, .int .i64 r.many, .bool r.wrap, .slice (some ⟨q1, 0, none⟩) r.data.length r.data.length, .slice (some ⟨q2, 0, none⟩) r.lanes.length r.lanes.length] 43)) (HX07.out.1.below gr7) (Nat.le_refl _) (by omega) ((cp_at HO127.out.1 HO127.out.2 HL.out.2.1 HL.out.2.2.1).below gr7) ((rc_at HO34.out.1 HO34.out.2 HL.out.2.2.2.1 HL.out.2.2.2.2).below gr7)
    rw [HZZ.out] at hDO
    unfold stV reqV rspV at hDO
    have HDO' := Hid.intro hDO
    have HG7 := Hid.intro gr7
    have hX37 : (w7.alloc (.cells #[.int .i64 r.id, .int .i64 r.kind, .int .i64 r.addr, .int .i64 r.many, .bool r.wrap, .slice (some ⟨q1, 0, none⟩) r.data.length r.data.length, .slice (some ⟨q2, 0, none⟩) r.lanes.length r.lanes.length] 43)).heap[w7.heap.size]? = some (.cells #[.int .i64 r.id, .int .i64 r.kind, .int .i64 r.addr, .int .i64 r.many, .bool r.wrap, .slice (some ⟨q1, 0, none⟩) r.data.length r.data.length, .slice (some ⟨q2, 0, none⟩) r.lanes.length r.lanes.length] 43 (0, 0)) := nw_at _ rfl
    have HX37 := Hid.intro hX37
    clear hDO gr7 H17' hX37
    go_wp2_with fail
    refine HDO'.out.mono ?_
    rintro e w8 ⟨kw, km, kh, kn, kx, kk, rfl, hO, hb8⟩
    have s8 := hb8.size
    simp only [World.size_alloc] at s8 hO
    have hb78 : Below w7.heap.size w7 w8 := HG7.out.trans (hb8.mono (by simp))
    have hN8 := hN7.trans (hb78.mono hN7.size)
    have KLT : Hid ((zs.words ≠ [] → ∀ b, kw = some ⟨b, 0, none⟩ → w7.heap.size + 1 ≤ b ∧ b < w8.heap.size) ∧ (zs.holds ≠ [] → ∀ b, kh = some ⟨b, 0, none⟩ → w7.heap.size + 1 ≤ b ∧ b < w8.heap.size) ∧ (zr.data ≠ [] → ∀ b, kx = some ⟨b, 0, none⟩ → w7.heap.size + 1 ≤ b ∧ b < w8.heap.size)) := Hid.intro ⟨own_lt hO.words, own_lt hO.holds, own_lt hO.data⟩
    have hX18 := (hb78.block _ X1l).trans HX17.out
    have hX38 := (hb8.block w7.heap.size (by simp)).trans HX37.out
    have hR0 := HX07.out.1.below hb78
    have hP0 := HX07.out.2.below (by omega) hb78
    have hr1 := HO127.out.1.of (hb78.block _ (by omega))
    have hr2 := HO127.out.2.of (hb78.block _ (by omega))
    have hr3 := HO34.out.1.of (hb78.block _ q1l)
    have hr4 := HO34.out.2.of (hb78.block _ q2l)
    have EQA := Hid.intro (fun (qw qh : Option Addr) (c d : Nat) (W : World) h1 h2 => eqAtm_same zs qw qh mw mh c d mm mn W h1 h2)
    have EQR := Hid.intro (fun (q : Option Addr) (c : Nat) (W : World) h1 h2 => eqRsp_same zr q mx c mk W h1 h2)
    unfold stV at EQA
    unfold rspV at EQR
    have hP8 := (hN8.block _ lm0).trans HBm0.out
    have lP8 : P < w8.heap.size := by omega
    have lP9 : P < w8.heap.size + 1 := by omega
    have a0 : w8.cell? ⟨P, 0, none⟩ = some (.slice mw zs.words.length mm) := heap_cell (hP8) 0
    have a1 : w8.cell? ⟨P, 1, none⟩ = some (.slice mh zs.holds.length mn) := heap_cell (hP8) 1
    have g8 := below_two w8 (.cells #[.slice kw zs.words.length km, .slice kh zs.holds.length kn] 35) (.cells #[.int .i64 zr.id, .int .i64 zr.code, .slice kx zr.data.length kk] 37)
    have HG8 := Hid.intro g8
    have HO8 := Hid.intro hO
    have HN8 := Hid.intro hN8
    have HXA := Hid.intro (And.intro hX18 (And.intro hX38 (And.intro hR0 (And.intro hP0 (And.intro hr1 (And.intro hr2 (And.intro hr3 hr4)))))))
    clear HX17 HX37 HX07 HO127 HO34 HDO' HG7 hb8 hb78 hN8 hN7 hX18 hX38 hR0 hP0 hr1 hr2 hr3 hr4 hP8 g8 hO
    go_wp2_with fail
    refine (EQA.out kw kh km kn _ (HO8.out.st.below HG8.out) (HOm.out.st.below (HN8.out.trans (HG8.out.mono HN8.out.size)))).mono ?_
    rintro e w9 ⟨rfl, hb9⟩
    have hg9 := HG8.out.trans (hb9.mono HG8.out.size)
    have hN9 := HN8.out.trans (hg9.mono HN8.out.size)
    have s9 := hb9.size
    simp only [World.size_alloc] at s9
    have bG0 := (hb9.block w8.heap.size (by simp; omega)).trans (two_at0 w8 _ _)
    have bG1 := (hb9.block (w8.heap.size + 1) (by simp)).trans (two_at1 w8 _ _)
    have HOk := Hid.intro (HO8.out.below hg9)
    obtain ⟨x1, x3, xr, xp, y1, y2, y3, y4⟩ := HXA.out
    have HXB : Hid (w9.heap[X1]? = some (.cells #[.slice (some ⟨g1, 0, none⟩) s.words.length s.words.length, .slice (some ⟨g2, 0, none⟩) s.holds.length s.holds.length] 35 (0, 0)) ∧ w9.heap[w7.heap.size]? = some (.cells #[.int .i64 r.id, .int .i64 r.kind, .int .i64 r.addr, .int .i64 r.many, .bool r.wrap, .slice (some ⟨q1, 0, none⟩) r.data.length r.data.length, .slice (some ⟨q2, 0, none⟩) r.lanes.length r.lanes.length] 43 (0, 0)) ∧ RowOf w9 (some ⟨w4.heap.size, 0, none⟩) ms ∧ Part w9 w4.heap.size ms.length ms ms.length ∧ ORow 3 1 w9 g1 s.words.length s.words.length (s.words.map (Value.int .i64)) ∧ ORow 3 1 w9 g2 s.holds.length s.holds.length (s.holds.map (Value.int .i64)) ∧ ORow 3 1 w9 q1 r.data.length r.data.length (r.data.map (Value.int .i64)) ∧ ORow 3 1 w9 q2 r.lanes.length r.lanes.length (r.lanes.map (Value.int .i64))) :=
      Hid.intro ⟨(hg9.block _ (by omega)).trans x1, (hg9.block _ (by omega)).trans x3, xr.below hg9, xp.below (by omega) hg9, y1.gr hg9, y2.gr hg9, y3.gr hg9, y4.gr hg9⟩
    obtain ⟨G0, eG0⟩ : ∃ G, G = w8.heap.size := ⟨_, rfl⟩
    obtain ⟨G1, eG1⟩ : ∃ G, G = w8.heap.size + 1 := ⟨_, rfl⟩
    obtain ⟨X3, eX3⟩ : ∃ X, X = w7.heap.size := ⟨_, rfl⟩
    obtain ⟨N0, eN0⟩ : ∃ N, N = w4.heap.size := ⟨_, rfl⟩
    rw [← eG1] at bG1 ⊢
    rw [← eG0] at bG0 ⊢
    rw [← eX3] at HXB ⊢
    rw [← eN0] at HXB ⊢
    have KL2 : Hid ((zs.words ≠ [] → ∀ b, kw = some ⟨b, 0, none⟩ → X3 < b ∧ b < G0) ∧ (zs.holds ≠ [] → ∀ b, kh = some ⟨b, 0, none⟩ → X3 < b ∧ b < G0) ∧ (zr.data ≠ [] → ∀ b, kx = some ⟨b, 0, none⟩ → X3 < b ∧ b < G0)) := by
      rw [eX3, eG0]
      exact Hid.intro ⟨fun h b e => KLT.out.1 h b e, fun h b e => KLT.out.2.1 h b e, fun h b e => KLT.out.2.2 h b e⟩
    have HN9 : Hid (Below N0 w4 w9) := Hid.intro (by rw [eN0]; exact hN9)
    have HOk' : Hid (AtmOut (X3 + 1) w9 zs zr kw km kh kn kx kk) := Hid.intro (by rw [eX3]; exact HOk.out)
    have HOm' : Hid (∀ W, Below N0 w4 W → AtmOut w3.heap.size W zs zr mw mm mh mn mx mk ∧ W.heap[P]? = some (.cells #[.slice mw zs.words.length mm, .slice mh zs.holds.length mn] 35 (0, 0)) ∧ W.heap[O]? = some (.cells #[.int .i64 zr.id, .int .i64 zr.code, .slice mx zr.data.length mk] 37 (0, 0)) ∧ W.heap[A5]? = some (.cells #[.slice pw s.words.length cw, .slice ph s.holds.length ch] 27 (0, 0)) ∧ W.heap[A7]? = some (.cells #[.int .i64 r.id, .int .i64 r.kind, .int .i64 r.addr, .int .i64 r.many, .bool r.wrap, .slice pd r.data.length cd, .slice pl r.lanes.length cl] 29 (0, 0)) ∧ Below w.heap.size w W) := by
      rw [eN0]
      exact Hid.intro (fun W hW => ⟨HOm.out.below hW, (hW.block _ lm0).trans HBm0.out, (hW.block _ lm1).trans HBm1.out, (hW.block _ hl54).trans H54.out, (hW.block _ hl74).trans H74.out, HBW4.out.trans (hW.mono HBW4.out.size)⟩)
    have ord : Hid (N0 < X1 ∧ N0 < g1 ∧ N0 < g2 ∧ g1 < X1 ∧ g2 < X1 ∧ X1 < q1 ∧ X1 < q2 ∧ q1 < X3 ∧ q2 < X3 ∧ X3 < G0 ∧ G0 < G1 ∧ G1 < w9.heap.size ∧ g1 ≠ g2 ∧ q1 ≠ q2 ∧ w.heap.size ≤ N0 ∧ N0 ≤ w4.heap.size) := Hid.intro (by have := HBW4.out.size; omega)
    have HBG0 := Hid.intro bG0
    have HBG1 := Hid.intro bG1
    clear lP8 lP9 HXA x1 x3 xr xp y1 y2 y3 y4 bG0 bG1 eG0 eG1 eX3 eN0 KLT HO8 HG8 HN8 hN9 hg9 hb9 HOm HOk HBm0 HBm1 H54 H74 HBW4 lm0 lm1 hl54 hl74 s5 s6 s7 s8 s9 g1l g2l q1l q2l m1 m2 n1 n2 ne12 neq hlt5 g1X g2X n0X q1X q2X X1l a0 a1
    have hm9 := HOm'.out w9 HN9.out
    have a0 : w9.cell? ⟨G1, 0, none⟩ = some (.int .i64 zr.id) := heap_cell (HBG1.out) 0
    have a1 : w9.cell? ⟨G1, 1, none⟩ = some (.int .i64 zr.code) := heap_cell (HBG1.out) 1
    have a2 : w9.cell? ⟨G1, 2, none⟩ = some (.slice kx zr.data.length kk) := heap_cell (HBG1.out) 2
    have b0 : w9.cell? ⟨O, 0, none⟩ = some (.int .i64 zr.id) := heap_cell (hm9.2.2.1) 0
    have b1 : w9.cell? ⟨O, 1, none⟩ = some (.int .i64 zr.code) := heap_cell (hm9.2.2.1) 1
    have b2 : w9.cell? ⟨O, 2, none⟩ = some (.slice mx zr.data.length mk) := heap_cell (hm9.2.2.1) 2
    clear hm9
    go_wp2_with fail
    refine (EQR.out kx kk w9 HOk'.out.rsp (HOm'.out w9 HN9.out).1.rsp).mono ?_
    rintro e w10 ⟨rfl, hb10⟩
    have HN10 := Hid.intro (HN9.out.trans (hb10.mono (by have := ord.out; omega)))
    have HV10 := Hid.intro hb10
    clear hb10 a0 a1 a2 b0 b1 b2
    go_wp2_with fail
    refine (toRows_any a cap ms w10 (HM.out.below (HOm'.out w10 HN10.out).2.2.2.2.2) hc hc' HL.out.1).mono ?_
    rintro e w11 ⟨rfl, hq11, hb11, _⟩
    have HV11 := Hid.intro (HV10.out.trans (hb11.mono HV10.out.size))
    have HN11 := Hid.intro (HN10.out.trans (hb11.mono (by have := ord.out; have := HV10.out.size; omega)))
    clear hb11 HV10 HN10
    go_wp2_with fail
    refine (eqRows_any (some ⟨N0, 0, none⟩) _ ms.length ms.length ms w11 (HXB.out.2.2.1.below HV11.out) hq11 (Nat.le_refl _) (by omega) (Nat.le_refl _) (by omega)).mono ?_
    rintro e w12 ⟨rfl, hb12⟩
    have HV12 := Hid.intro (HV11.out.trans (hb12.mono HV11.out.size))
    have HN12 := Hid.intro (HN11.out.trans (hb12.mono (by have := ord.out; have := HV11.out.size; omega)))
    clear hb12 HV11 HN11 hq11
    go_wp2_with fail
    have hbb := (HV12.out.block X1 (by have := ord.out; omega)).trans HXB.out.1
    have haa := (HOm'.out w12 HN12.out).2.2.2.1
    have hbw := (HOm'.out w12 HN12.out).2.2.2.2.2
    have hlb := heap_lt hbb
    have hla := heap_lt haa
    have hrr := And.intro (HXB.out.2.2.2.2.1.gr HV12.out) (HXB.out.2.2.2.2.2.1.gr HV12.out)
    refine wp_region_typed (by kernel_rfl) Gr (fun _ W => Below w12.heap.size w12 W)
      (tab [(77, kIs (.agg #[.slice (some ⟨g1, 0, none⟩) s.words.length s.words.length, .slice (some ⟨g2, 0, none⟩) s.holds.length s.holds.length])), (78, kIs (.agg #[.slice pw s.words.length cw, .slice ph s.holds.length ch])), (79, kCp s), (80, kIs (.bool true)), (81, kIs (.bool false))])
      [77, 78, 79, 80, 81] (by kernel_rfl) (by kernel_rfl) ?_ ?_ ?_ ?_
    · refine tabR_stable ?_
      intro x hx
      simp only [List.mem_cons, List.not_mem_nil, or_false] at hx
      rcases hx with rfl | rfl | rfl | rfl | rfl
      all_goals intro w w' v hr hv
      all_goals first | exact hv | exact kCp_gr _ _ _ hr hv | exact kRc_gr _ _ _ hr hv
    · exact (Below.refl _ _).drew
    · refine ops_cons (gd rfl <| tx_pure rfl rfl (fun _ _ h => h) Gr.refl (fun i ρ W hat hW => ?_)) ?_
      · have bW := (hW.block X1 hlb).trans hbb
        have c0 : W.cell? ⟨X1, 0, none⟩ = some (.slice (some ⟨g1, 0, none⟩) s.words.length s.words.length) := heap_cell bW 0
        have c1 : W.cell? ⟨X1, 1, none⟩ = some (.slice (some ⟨g2, 0, none⟩) s.holds.length s.holds.length) := heap_cell bW 1
        have e2 := hat.out 13 (by kernel_rfl)
        simp [Act.eval] at e2
        clear bW hbb haa
        simp only [execOp, e2]; go_simp
      refine ops_cons (gd rfl <| tx_pure rfl rfl (fun _ _ h => h) Gr.refl (fun i ρ W hat hW => ?_)) ?_
      · have bW := (hW.block A5 hla).trans haa
        have c0 : W.cell? ⟨A5, 0, none⟩ = some (.slice pw s.words.length cw) := heap_cell bW 0
        have c1 : W.cell? ⟨A5, 1, none⟩ = some (.slice ph s.holds.length ch) := heap_cell bW 1
        have e2 := hat.out 5 (by kernel_rfl)
        simp [Act.eval] at e2
        clear bW hbb haa
        simp only [execOp, e2]; go_simp
      refine ops_cons (gd rfl <| tx_call rfl (fun i ρ W _ hat hW => ?_)) ?_
      · have e1 : ρ (.tmp 78) = _ := hat.dep 78 (by kernel_rfl)
        have hf := hat.fn
        clear hbb haa
        refine ⟨10, #[.agg #[.slice pw s.words.length cw, .slice ph s.holds.length ch]], by simp only [execOp]; go_simp, ?_⟩
        refine (HTS.out W (hbw.trans (hW.mono hbw.size))).mono ?_
        rintro e W' ⟨⟨v, rfl, hv⟩, hb⟩
        exact ⟨v, rfl, hW.trans (hb.mono hW.size), hb, by rw [HKS.out] at hv; exact hv⟩
      refine ops_cons (gd rfl <| tx_call rfl (fun i ρ W _ hat hW => ?_)) ?_
      · have e1 : ρ (.tmp 77) = _ := hat.dep 77 (by kernel_rfl)
        obtain ⟨k1, k2, e2, u1, u2⟩ : kCp s W (ρ (.tmp 79)) := hat.dep 79 (by kernel_rfl)
        have hf := hat.fn
        clear hbb haa
        refine ⟨13, #[.agg #[.slice (some ⟨g1, 0, none⟩) s.words.length s.words.length, .slice (some ⟨g2, 0, none⟩) s.holds.length s.holds.length], stV s (some ⟨k1, 0, none⟩) s.words.length (some ⟨k2, 0, none⟩) s.holds.length], by simp only [execOp]; go_simp, ?_⟩
        refine (eqAtm_same s _ _ _ _ _ _ _ _ W (cp_at (hrr.1.gr hW) (hrr.2.gr hW) HL.out.2.1 HL.out.2.2.1) (cp_at u1 u2 HL.out.2.1 HL.out.2.2.1)).mono ?_
        rintro e W' ⟨rfl, hb⟩
        exact ⟨_, rfl, hW.trans (hb.mono hW.size), hb, rfl⟩
      refine ops_cons (gd rfl <| tx_pure rfl rfl (fun _ _ h => h) Gr.refl (fun i ρ W hat hW => ?_)) ?_
      · have e1 : ρ (.tmp 80) = _ := hat.dep 80 (by kernel_rfl)
        clear hbb haa
        simp only [execOp, e1]; go_simp
      exact ops_nil
    intro f w13 hW hf
    have ee : f 81 = .bool false := hf 81 (by simp)
    have HV13 := Hid.intro (HV12.out.trans (hW.mono HV12.out.size))
    have HN13 := Hid.intro (HN12.out.trans (hW.mono (by have := ord.out; have := HV12.out.size; omega)))
    clear hf hW hbb haa hlb hla hbw hrr HV12 HN12
    simp only [fill, ee]
    go_simp
    clear ee
    go_wp2_with fail
    have hbb := (HV13.out.block X3 (by have := ord.out; omega)).trans HXB.out.2.1
    have haa := (HOm'.out w13 HN13.out).2.2.2.2.1
    have hbw := (HOm'.out w13 HN13.out).2.2.2.2.2
    have hlb := heap_lt hbb
    have hla := heap_lt haa
    have hrr := And.intro (HXB.out.2.2.2.2.2.2.1.gr HV13.out) (HXB.out.2.2.2.2.2.2.2.gr HV13.out)
    refine wp_region_typed (by kernel_rfl) Gr (fun _ W => Below w13.heap.size w13 W)
      (tab [(82, kIs (.agg #[.int .i64 r.id, .int .i64 r.kind, .int .i64 r.addr, .int .i64 r.many, .bool r.wrap, .slice (some ⟨q1, 0, none⟩) r.data.length r.data.length, .slice (some ⟨q2, 0, none⟩) r.lanes.length r.lanes.length])), (83, kIs (.agg #[.int .i64 r.id, .int .i64 r.kind, .int .i64 r.addr, .int .i64 r.many, .bool r.wrap, .slice pd r.data.length cd, .slice pl r.lanes.length cl])), (84, kRc r), (85, kIs (.bool true)), (86, kIs (.bool false))])
      [82, 83, 84, 85, 86] (by kernel_rfl) (by kernel_rfl) ?_ ?_ ?_ ?_
    · refine tabR_stable ?_
      intro x hx
      simp only [List.mem_cons, List.not_mem_nil, or_false] at hx
      rcases hx with rfl | rfl | rfl | rfl | rfl
      all_goals intro w w' v hr hv
      all_goals first | exact hv | exact kCp_gr _ _ _ hr hv | exact kRc_gr _ _ _ hr hv
    · exact (Below.refl _ _).drew
    · refine ops_cons (gd rfl <| tx_pure rfl rfl (fun _ _ h => h) Gr.refl (fun i ρ W hat hW => ?_)) ?_
      · have bW := (hW.block X3 hlb).trans hbb
        have c0 : W.cell? ⟨X3, 0, none⟩ = some (.int .i64 r.id) := heap_cell bW 0
        have c1 : W.cell? ⟨X3, 1, none⟩ = some (.int .i64 r.kind) := heap_cell bW 1
        have c2 : W.cell? ⟨X3, 2, none⟩ = some (.int .i64 r.addr) := heap_cell bW 2
        have c3 : W.cell? ⟨X3, 3, none⟩ = some (.int .i64 r.many) := heap_cell bW 3
        have c4 : W.cell? ⟨X3, 4, none⟩ = some (.bool r.wrap) := heap_cell bW 4
        have c5 : W.cell? ⟨X3, 5, none⟩ = some (.slice (some ⟨q1, 0, none⟩) r.data.length r.data.length) := heap_cell bW 5
        have c6 : W.cell? ⟨X3, 6, none⟩ = some (.slice (some ⟨q2, 0, none⟩) r.lanes.length r.lanes.length) := heap_cell bW 6
        have e2 := hat.out 14 (by kernel_rfl)
        simp [Act.eval] at e2
        clear bW hbb haa
        simp only [execOp, e2]; go_simp
      refine ops_cons (gd rfl <| tx_pure rfl rfl (fun _ _ h => h) Gr.refl (fun i ρ W hat hW => ?_)) ?_
      · have bW := (hW.block A7 hla).trans haa
        have c0 : W.cell? ⟨A7, 0, none⟩ = some (.int .i64 r.id) := heap_cell bW 0
        have c1 : W.cell? ⟨A7, 1, none⟩ = some (.int .i64 r.kind) := heap_cell bW 1
        have c2 : W.cell? ⟨A7, 2, none⟩ = some (.int .i64 r.addr) := heap_cell bW 2
        have c3 : W.cell? ⟨A7, 3, none⟩ = some (.int .i64 r.many) := heap_cell bW 3
        have c4 : W.cell? ⟨A7, 4, none⟩ = some (.bool r.wrap) := heap_cell bW 4
        have c5 : W.cell? ⟨A7, 5, none⟩ = some (.slice pd r.data.length cd) := heap_cell bW 5
        have c6 : W.cell? ⟨A7, 6, none⟩ = some (.slice pl r.lanes.length cl) := heap_cell bW 6
        have e2 := hat.out 7 (by kernel_rfl)
        simp [Act.eval] at e2
        clear bW hbb haa
        simp only [execOp, e2]; go_simp
      refine ops_cons (gd rfl <| tx_call rfl (fun i ρ W _ hat hW => ?_)) ?_
      · have e1 : ρ (.tmp 83) = _ := hat.dep 83 (by kernel_rfl)
        have hf := hat.fn
        clear hbb haa
        refine ⟨11, #[.agg #[.int .i64 r.id, .int .i64 r.kind, .int .i64 r.addr, .int .i64 r.many, .bool r.wrap, .slice pd r.data.length cd, .slice pl r.lanes.length cl]], by simp only [execOp]; go_simp, ?_⟩
        refine (HTR.out W (hbw.trans (hW.mono hbw.size))).mono ?_
        rintro e W' ⟨⟨v, rfl, hv⟩, hb⟩
        exact ⟨v, rfl, hW.trans (hb.mono hW.size), hb, by rw [HKR.out] at hv; exact hv⟩
      refine ops_cons (gd rfl <| tx_call rfl (fun i ρ W _ hat hW => ?_)) ?_
      · have e1 : ρ (.tmp 82) = _ := hat.dep 82 (by kernel_rfl)
        obtain ⟨k1, k2, e2, u1, u2⟩ : kRc r W (ρ (.tmp 84)) := hat.dep 84 (by kernel_rfl)
        have hf := hat.fn
        clear hbb haa
        refine ⟨16, #[.agg #[.int .i64 r.id, .int .i64 r.kind, .int .i64 r.addr, .int .i64 r.many, .bool r.wrap, .slice (some ⟨q1, 0, none⟩) r.data.length r.data.length, .slice (some ⟨q2, 0, none⟩) r.lanes.length r.lanes.length], reqV r (some ⟨k1, 0, none⟩) r.data.length (some ⟨k2, 0, none⟩) r.lanes.length], by simp only [execOp]; go_simp, ?_⟩
        refine (eqReq_same r _ _ _ _ _ _ _ _ W (rc_at (hrr.1.gr hW) (hrr.2.gr hW) HL.out.2.2.2.1 HL.out.2.2.2.2) (rc_at u1 u2 HL.out.2.2.2.1 HL.out.2.2.2.2)).mono ?_
        rintro e W' ⟨rfl, hb⟩
        exact ⟨_, rfl, hW.trans (hb.mono hW.size), hb, rfl⟩
      refine ops_cons (gd rfl <| tx_pure rfl rfl (fun _ _ h => h) Gr.refl (fun i ρ W hat hW => ?_)) ?_
      · have e1 : ρ (.tmp 85) = _ := hat.dep 85 (by kernel_rfl)
        clear hbb haa
        simp only [execOp, e1]; go_simp
      exact ops_nil
    intro f w14 hW hf
    have ee : f 86 = .bool false := hf 86 (by simp)
    have HV14 := Hid.intro (HV13.out.trans (hW.mono HV13.out.size))
    have HN14 := Hid.intro (HN13.out.trans (hW.mono (by have := ord.out; have := HV13.out.size; omega)))
    clear hf hW hbb haa hlb hla hbw hrr HV13 HN13
    simp only [fill, ee]
    go_simp
    clear ee
    go_wp2_with fail
    have hp14 := HXB.out.2.2.2.1.below (by have := ord.out; omega) HV14.out
    refine (markRows_any N0 ms.length ms.length 1 w14 (by have := ord.out; have := HV14.out.size; omega) hp14.there hp14.free (by omega) (by omega) (by have := HL.out.1; omega)).mono ?_
    rintro e w15 ⟨rfl, hk⟩
    have HU15 := Hid.intro ((Up.of_below (M := N0 + 1) HV14.out).trans (Up.of_kept hk (fun k (e : k = N0) => by omega)))
    have HN15 := Hid.intro (below_kept HN14.out hk (fun i (e : i = N0) => by omega) (by have := ord.out; have := HV14.out.size; omega))
    clear hp14 hk HV14 HN14
    have b15 := (HU15.out.block X1 (by have := ord.out; omega) (by have := ord.out; omega)).trans HXB.out.1
    have a0 : w15.cell? ⟨X1, 0, none⟩ = some (.slice (some ⟨g1, 0, none⟩) s.words.length s.words.length) := heap_cell (b15) 0
    have a1 : w15.cell? ⟨X1, 1, none⟩ = some (.slice (some ⟨g2, 0, none⟩) s.holds.length s.holds.length) := heap_cell (b15) 1
    go_wp2_with fail
    refine (markAtmL_any (some ⟨g1, 0, none⟩) (some ⟨g2, 0, none⟩) s.words.length s.holds.length s.words s.holds (1 + 4 * (ms.length : Int)) w15 (.inr ⟨g1, rfl, HXB.out.2.2.2.2.1.of (HU15.out.block g1 (by have := ord.out; omega) (by have := ord.out; omega))⟩) (.inr ⟨g2, rfl, HXB.out.2.2.2.2.2.1.of (HU15.out.block g2 (by have := ord.out; omega) (by have := ord.out; omega))⟩) (.inr (.inr (by intro e; simp at e; have := ord.out; omega))) (by omega) (by omega) HL.out.2.1 HL.out.2.2.1 (Nat.le_refl _) (by omega) (Nat.le_refl _) (by omega)).mono ?_
    rintro e w16 ⟨rfl, _, _, hk⟩
    have hd : ∀ k, ((s.words ≠ [] ∧ some (⟨g1, 0, none⟩ : Addr) = some ⟨k, 0, none⟩) ∨ (s.holds ≠ [] ∧ some (⟨g2, 0, none⟩ : Addr) = some ⟨k, 0, none⟩)) → N0 ≤ k ∧ k < X1 := by
      rintro k (⟨_, e⟩ | ⟨_, e⟩) <;> (simp at e; have := ord.out; omega)
    have HU16 := Hid.intro ((HU15.out.mono (M' := X1) (by have := ord.out; omega)).trans (Up.of_kept hk (fun k e => (hd k e).2)))
    have HN16 := Hid.intro (below_kept HN15.out hk (fun k e => (hd k e).1) (by have := ord.out; have := HU15.out.size; omega))
    clear hd hk HU15 HN15 b15 a0 a1
    have b16 := (HU16.out.block X3 (by have := ord.out; omega) (by have := ord.out; omega)).trans HXB.out.2.1
    have a0 : w16.cell? ⟨X3, 0, none⟩ = some (.int .i64 r.id) := heap_cell (b16) 0
    have a1 : w16.cell? ⟨X3, 1, none⟩ = some (.int .i64 r.kind) := heap_cell (b16) 1
    have a2 : w16.cell? ⟨X3, 2, none⟩ = some (.int .i64 r.addr) := heap_cell (b16) 2
    have a3 : w16.cell? ⟨X3, 3, none⟩ = some (.int .i64 r.many) := heap_cell (b16) 3
    have a4 : w16.cell? ⟨X3, 4, none⟩ = some (.bool r.wrap) := heap_cell (b16) 4
    have a5 : w16.cell? ⟨X3, 5, none⟩ = some (.slice (some ⟨q1, 0, none⟩) r.data.length r.data.length) := heap_cell (b16) 5
    have a6 : w16.cell? ⟨X3, 6, none⟩ = some (.slice (some ⟨q2, 0, none⟩) r.lanes.length r.lanes.length) := heap_cell (b16) 6
    go_wp2_with fail
    have hmq := markReq_any r (some ⟨q1, 0, none⟩) (some ⟨q2, 0, none⟩) r.data.length r.lanes.length (1 + 4 * (ms.length : Int) + (s.words.length : Int) + (s.holds.length : Int)) w16 (.inr ⟨q1, rfl, HXB.out.2.2.2.2.2.2.1.of (HU16.out.block q1 (by have := ord.out; omega) (by have := ord.out; omega))⟩) (.inr ⟨q2, rfl, HXB.out.2.2.2.2.2.2.2.of (HU16.out.block q2 (by have := ord.out; omega) (by have := ord.out; omega))⟩) (.inr (.inr (by intro e; simp at e; have := ord.out; omega))) (by omega) (by omega) HL.out.2.2.2.1 HL.out.2.2.2.2 (Nat.le_refl _) (by omega) (Nat.le_refl _) (by omega)
    unfold reqV at hmq
    refine hmq.mono ?_
    rintro e w17 ⟨rfl, hk⟩
    have hd : ∀ k, ((r.data ≠ [] ∧ some (⟨q1, 0, none⟩ : Addr) = some ⟨k, 0, none⟩) ∨ (r.lanes ≠ [] ∧ some (⟨q2, 0, none⟩ : Addr) = some ⟨k, 0, none⟩)) → N0 ≤ k ∧ k < X3 + 1 := by
      rintro k (⟨_, e⟩ | ⟨_, e⟩) <;> (simp at e; have := ord.out; omega)
    have hU17 := (HU16.out.mono (M' := X3 + 1) (by have := ord.out; omega)).trans (Up.of_kept hk (fun k e => (hd k e).2))
    have HN17 := Hid.intro (below_kept HN16.out hk (fun k e => (hd k e).1) (by have := ord.out; have := HU16.out.size; omega))
    have hG0 := (hU17.block G0 (by have := ord.out; omega) (by have := ord.out; omega)).trans HBG0.out
    have hG1 := (hU17.block G1 (by have := ord.out; omega) (by have := ord.out; omega)).trans HBG1.out
    have HO17 := Hid.intro (HOk'.out.up hU17)
    have lt17 : Hid (G0 < w17.heap.size ∧ G1 < w17.heap.size ∧ N0 ≤ w17.heap.size) := Hid.intro (by have := ord.out; have := hU17.size; omega)
    have hK0 : ¬ (1 + 4 * (ms.length : Int) + (s.words.length : Int) + (s.holds.length : Int) + (r.data.length : Int) + (r.lanes.length : Int) < 0) := by omega
    have HG17 := Hid.intro (And.intro hG0 hG1)
    clear hmq hd hk HU16 HN16 b16 a0 a1 a2 a3 a4 a5 a6 hU17 HXB HOk' HBG0 HBG1 hG0 hG1 HN9
    have a0 : w17.cell? ⟨G0, 0, none⟩ = some (.slice kw zs.words.length km) := heap_cell (HG17.out.1) 0
    have a1 : w17.cell? ⟨G0, 1, none⟩ = some (.slice kh zs.holds.length kn) := heap_cell (HG17.out.1) 1
    have b0 : w17.cell? ⟨P, 0, none⟩ = some (.slice mw zs.words.length mm) := heap_cell ((HOm'.out w17 HN17.out).2.1) 0
    have b1 : w17.cell? ⟨P, 1, none⟩ = some (.slice mh zs.holds.length mn) := heap_cell ((HOm'.out w17 HN17.out).2.1) 1
    go_wp2_with fail
    refine (EQA.out kw kh km kn w17 HO17.out.st (HOm'.out w17 HN17.out).1.st).mono ?_
    rintro e w18 ⟨rfl, hb⟩
    have HN18 := Hid.intro (HN17.out.trans (hb.mono lt17.out.2.2))
    have HO18 := Hid.intro (HO17.out.below hb)
    have HG18 := Hid.intro (And.intro ((hb.block G0 lt17.out.1).trans HG17.out.1) ((hb.block G1 lt17.out.2.1).trans HG17.out.2))
    have lt18 : Hid (G0 < w18.heap.size ∧ G1 < w18.heap.size ∧ N0 ≤ w18.heap.size) := Hid.intro (by have := lt17.out; have := hb.size; omega)
    clear HN17 HO17 HG17 lt17 a0 a1 b0 b1 hb
    have a0 : w18.cell? ⟨G1, 0, none⟩ = some (.int .i64 zr.id) := heap_cell (HG18.out.2) 0
    have a1 : w18.cell? ⟨G1, 1, none⟩ = some (.int .i64 zr.code) := heap_cell (HG18.out.2) 1
    have a2 : w18.cell? ⟨G1, 2, none⟩ = some (.slice kx zr.data.length kk) := heap_cell (HG18.out.2) 2
    have b0 : w18.cell? ⟨O, 0, none⟩ = some (.int .i64 zr.id) := heap_cell ((HOm'.out w18 HN18.out).2.2.1) 0
    have b1 : w18.cell? ⟨O, 1, none⟩ = some (.int .i64 zr.code) := heap_cell ((HOm'.out w18 HN18.out).2.2.1) 1
    have b2 : w18.cell? ⟨O, 2, none⟩ = some (.slice mx zr.data.length mk) := heap_cell ((HOm'.out w18 HN18.out).2.2.1) 2
    go_wp2_with fail
    refine (EQR.out kx kk w18 HO18.out.rsp (HOm'.out w18 HN18.out).1.rsp).mono ?_
    rintro e w19 ⟨rfl, hb⟩
    have HN19 := Hid.intro (HN18.out.trans (hb.mono lt18.out.2.2))
    have HO19 := Hid.intro (HO18.out.below hb)
    have HG19 := Hid.intro (And.intro ((hb.block G0 lt18.out.1).trans HG18.out.1) ((hb.block G1 lt18.out.2.1).trans HG18.out.2))
    have lt19 : Hid (G0 < w19.heap.size ∧ G1 < w19.heap.size ∧ N0 ≤ w19.heap.size) := Hid.intro (by have := lt18.out; have := hb.size; omega)
    have HZL := Hid.intro (z_len HZZ.out)
    clear HN18 HO18 HG18 lt18 a0 a1 a2 b0 b1 b2 hb hK0
    have a0 : w19.cell? ⟨G0, 0, none⟩ = some (.slice kw zs.words.length km) := heap_cell (HG19.out.1) 0
    have a1 : w19.cell? ⟨G0, 1, none⟩ = some (.slice kh zs.holds.length kn) := heap_cell (HG19.out.1) 1
    go_wp2_with fail
    refine (markAtm_any kw kh km kn zs.words zs.holds 1 w19 HO19.out.words.own HO19.out.holds.own HO19.out.wh (by omega) (by omega) (by have := HZL.out; omega) (by have := HZL.out; omega) HO19.out.cw1 HO19.out.cw2 HO19.out.ch1 HO19.out.ch2).mono ?_
    rintro e w20 ⟨rfl, ho1, ho2, hk⟩
    have hd : ∀ k, ((zs.words ≠ [] ∧ kw = some ⟨k, 0, none⟩) ∨ (zs.holds ≠ [] ∧ kh = some ⟨k, 0, none⟩)) → X3 < k ∧ k < G0 := by
      rintro k (⟨h, e⟩ | ⟨h, e⟩)
      · exact KL2.out.1 h k e
      · exact KL2.out.2.1 h k e
    have HN20 := Hid.intro (below_kept HN19.out hk (fun k e => by have := hd k e; have := ord.out; omega) lt19.out.2.2)
    have hG0 := (hk.block G0 lt19.out.1 (fun e => by have := hd _ e; omega)).trans HG19.out.1
    have hG1 := (hk.block G1 lt19.out.2.1 (fun e => by have := hd _ e; have := ord.out; omega)).trans HG19.out.2
    have HG20 := Hid.intro (And.intro hG0 hG1)
    have HD20 := Hid.intro (OwnI.kept HO19.out.data.own hk (apart2 HO19.out.wx HO19.out.hx))
    have HM20 := Hid.intro (And.intro ho1 ho2)
    have lt20 : Hid (G0 < w20.heap.size ∧ G1 < w20.heap.size ∧ N0 ≤ w20.heap.size) := Hid.intro (by have := lt19.out; have := hk.size; omega)
    have HCP : Hid (zs.words.length ≤ km ∧ km ≤ 9223372036854775807 ∧ zs.holds.length ≤ kn ∧ kn ≤ 9223372036854775807 ∧ zr.data.length ≤ kk ∧ kk ≤ 9223372036854775807 ∧ Apart kw zs.words kx zr.data ∧ Apart kh zs.holds kx zr.data) := Hid.intro ⟨HO19.out.cw1, HO19.out.cw2, HO19.out.ch1, HO19.out.ch2, HO19.out.cx1, HO19.out.cx2, HO19.out.wx, HO19.out.hx⟩
    clear hd hk HN19 HO19 HG19 lt19 ho1 ho2 hG0 hG1 a0 a1
    have a0 : w20.cell? ⟨G1, 0, none⟩ = some (.int .i64 zr.id) := heap_cell (HG20.out.2) 0
    have a1 : w20.cell? ⟨G1, 1, none⟩ = some (.int .i64 zr.code) := heap_cell (HG20.out.2) 1
    have a2 : w20.cell? ⟨G1, 2, none⟩ = some (.slice kx zr.data.length kk) := heap_cell (HG20.out.2) 2
    go_wp2_with fail
    refine (markRsp_any kx kk zr.data zr.id zr.code (1 + (zs.words.length : Int) + (zs.holds.length : Int)) w20 HD20.out (by omega) (by have := HZL.out; omega) (by have := HZL.out; omega) HCP.out.2.2.2.2.1 HCP.out.2.2.2.2.2.1).mono ?_
    rintro e w21 ⟨rfl, ho3, hk⟩
    have hd : ∀ k, (zr.data ≠ [] ∧ kx = some ⟨k, 0, none⟩) → X3 < k ∧ k < G0 := fun k e => KL2.out.2.2 e.1 k e.2
    have HN21 := Hid.intro (below_kept HN20.out hk (fun k e => by have := hd k e; have := ord.out; omega) lt20.out.2.2)
    have hG0 := (hk.block G0 lt20.out.1 (fun e => by have := hd _ e; omega)).trans HG20.out.1
    have hG1 := (hk.block G1 lt20.out.2.1 (fun e => by have := hd _ e; have := ord.out; omega)).trans HG20.out.2
    have HG21 := Hid.intro (And.intro hG0 hG1)
    have hw1 := OwnI.kept HM20.out.1 hk (apart1 HCP.out.2.2.2.2.2.2.1 rfl)
    have hw2 := OwnI.kept HM20.out.2 hk (apart1 HCP.out.2.2.2.2.2.2.2 rfl)
    have HM21 := Hid.intro (And.intro hw1.ints (And.intro hw2.ints ho3.ints))
    have lt21 : Hid (G0 < w21.heap.size ∧ G1 < w21.heap.size ∧ N0 ≤ w21.heap.size) := Hid.intro (by have := lt20.out; have := hk.size; omega)
    have hK1 : ¬ (1 + (zs.words.length : Int) + (zs.holds.length : Int) < 0) := by omega
    have hK2 : ¬ (1 + (zs.words.length : Int) + (zs.holds.length : Int) + (zr.data.length : Int) < 0) := by omega
    clear hd hk HN20 HG20 HD20 HM20 lt20 ho3 hw1 hw2 hG0 hG1 a0 a1 a2
    have a0 : w21.cell? ⟨G0, 0, none⟩ = some (.slice kw zs.words.length km) := heap_cell (HG21.out.1) 0
    have a1 : w21.cell? ⟨G0, 1, none⟩ = some (.slice kh zs.holds.length kn) := heap_cell (HG21.out.1) 1
    go_wp2_with fail
    refine (heldAtm_any kw kh km kn zs.words.length zs.holds.length 1 w21 HM21.out.1 HM21.out.2.1 (by omega) (by omega) (by have := HZL.out; omega) (by have := HZL.out; omega) HCP.out.1 HCP.out.2.1 HCP.out.2.2.1 HCP.out.2.2.2.1).mono ?_
    rintro e w22 ⟨rfl, hb⟩
    have HN22 := Hid.intro (HN21.out.trans (hb.mono lt21.out.2.2))
    have HG22 := Hid.intro (And.intro ((hb.block G0 lt21.out.1).trans HG21.out.1) ((hb.block G1 lt21.out.2.1).trans HG21.out.2))
    have HM22 := Hid.intro (And.intro (HM21.out.1.below hb) (And.intro (HM21.out.2.1.below hb) (HM21.out.2.2.below hb)))
    have lt22 : Hid (G0 < w22.heap.size ∧ G1 < w22.heap.size ∧ N0 ≤ w22.heap.size) := Hid.intro (by have := lt21.out; have := hb.size; omega)
    clear HN21 HG21 HM21 lt21 a0 a1 hb
    have a0 : w22.cell? ⟨G1, 0, none⟩ = some (.int .i64 zr.id) := heap_cell (HG22.out.2) 0
    have a1 : w22.cell? ⟨G1, 1, none⟩ = some (.int .i64 zr.code) := heap_cell (HG22.out.2) 1
    have a2 : w22.cell? ⟨G1, 2, none⟩ = some (.slice kx zr.data.length kk) := heap_cell (HG22.out.2) 2
    go_wp2_with fail
    refine (heldRsp_any kx kk zr.data.length zr.id zr.code (1 + (zs.words.length : Int) + (zs.holds.length : Int)) w22 HM22.out.2.2 (by omega) (by have := HZL.out; omega) (by have := HZL.out; omega) HCP.out.2.2.2.2.1 HCP.out.2.2.2.2.2.1).mono ?_
    rintro e wQ ⟨rfl, hb⟩
    have HNQ := Hid.intro (HN22.out.trans (hb.mono lt22.out.2.2))
    have HGQ := Hid.intro (And.intro ((hb.block G0 lt22.out.1).trans HG22.out.1) ((hb.block G1 lt22.out.2.1).trans HG22.out.2))
    have HMQ := Hid.intro (And.intro (HM22.out.1.below hb) (And.intro (HM22.out.2.1.below hb) (HM22.out.2.2.below hb)))
    have ltQ : Hid (G0 < wQ.heap.size ∧ G1 < wQ.heap.size ∧ N0 ≤ wQ.heap.size) := Hid.intro (by have := lt22.out; have := hb.size; omega)
    clear HN22 HG22 HM22 lt22 a0 a1 a2 hb
    have HBW9 := Hid.intro (HOm'.out wQ HNQ.out).2.2.2.2.2
    have H5 := Hid.intro (HOm'.out wQ HNQ.out).2.2.2.1
    have H7 := Hid.intro (HOm'.out wQ HNQ.out).2.2.2.2.1
    have hl5 := heap_lt H5.out
    have hl7 := heap_lt H7.out
    obtain ⟨K5, hK5⟩ : ∃ K5 : World → Value → Prop, K5 = kOut wQ.heap.size zs zr := ⟨_, rfl⟩
    have h5g : ∀ w w' v, Gr w w' → K5 w v → K5 w' v := by rw [hK5]; exact kOut_gr
    have h5ta : ∀ w w' v, KT 35 w w' → K5 w v → K5 w' v := by rw [hK5]; exact kOut_kt (by decide)
    have h5tb : ∀ w w' v, KT 37 w w' → K5 w v → K5 w' v := by rw [hK5]; exact kOut_kt (by decide)
    have h5t : ∀ W v, K5 W v → ∃ va vb, v = .tuple #[va, vb] := by rw [hK5]; exact kOut_t
    have h5s : ∀ W v, K5 W v → ∃ p0 n0 k0 p1 n1 k1 v2, v = .tuple #[.agg #[.slice p0 n0 k0, .slice p1 n1 k1], v2] := by rw [hK5]; exact kOut_s
    have h5x : ∀ W v, K5 W v → ∃ va i0 i1 p2 n2 k2, v = .tuple #[va, .agg #[.int .i64 i0, .int .i64 i1, .slice p2 n2 k2]] := by rw [hK5]; exact kOut_x
    have HTM9 : Hid (∀ W, Below wQ.heap.size wQ W → Calls Tryz.prog 9 #[.slice a ms.length cap] W fun e w' => (∃ v, e = .returned v ∧ KM w' v) ∧ Below W.heap.size W w') := Hid.intro (fun W hW => HTM.out W (HBW9.out.trans (hW.mono HBW9.out.size)))
    have HTS9 : Hid (∀ W, Below wQ.heap.size wQ W → Calls Tryz.prog 10 #[.agg #[.slice pw s.words.length cw, .slice ph s.holds.length ch]] W fun e w' => (∃ v, e = .returned v ∧ KS w' v) ∧ Below W.heap.size W w') := Hid.intro (fun W hW => HTS.out W (HBW9.out.trans (hW.mono HBW9.out.size)))
    have HTR9 : Hid (∀ W, Below wQ.heap.size wQ W → Calls Tryz.prog 11 #[.agg #[.int .i64 r.id, .int .i64 r.kind, .int .i64 r.addr, .int .i64 r.many, .bool r.wrap, .slice pd r.data.length cd, .slice pl r.lanes.length cl]] W fun e w' => (∃ v, e = .returned v ∧ KR w' v) ∧ Below W.heap.size W w') := Hid.intro (fun W hW => HTR.out W (HBW9.out.trans (hW.mono HBW9.out.size)))
    have HDO9 : Hid (∀ vM vS vR W, Below wQ.heap.size wQ W → KM W vM → KS W vS → KR W vR → Calls Tryz.prog 12 #[vM, vS, .int .i64 who, vR] W fun e w' => (∃ v, e = .returned v ∧ K5 w' v) ∧ Below W.heap.size W w') := by
      refine Hid.intro (fun vM vS vR W hW h1 h2 h3 => ?_)
      rw [HKM.out] at h1
      rw [HKS.out] at h2
      rw [HKR.out] at h3
      rw [hK5]
      exact do_kinds HC.out HZZ.out HL.out.1 HL.out.2.1 HL.out.2.2.1 HL.out.2.2.2.1 HL.out.2.2.2.2 _ vM vS vR W hW.size h1 h2 h3
    have HK5 := Hid.intro hK5
    clear hK5
    go_wp2_with fail
    refine wp_region_fl (by kernel_rfl) (fl_xdb (.slice a ms.length cap) (.agg #[.slice pw s.words.length cw, .slice ph s.holds.length ch]) (.int .i64 who) (.agg #[.int .i64 r.id, .int .i64 r.kind, .int .i64 r.addr, .int .i64 r.many, .bool r.wrap, .slice pd r.data.length cd, .slice pl r.lanes.length cl]) A5 A7 KM KS KR wQ.heap.size K5) (fun _ => Below wQ.heap.size wQ) [130, 131, 132, 133, 134, 135, 136, 137, 129, 138, 139, 20, 21] (by kernel_rfl) (by kernel_rfl) (by kernel_rfl) ?c0 ?looks ?done
    case looks =>
      intro hcl i o ho
      rcases i with _ | _ | _ | _ | _ | _ | _ | _ | _ | _ | _ | _ | _ | _ | _ | i
      · simp at ho; subst ho
        refine fo_det (st_xdb (.slice a ms.length cap) (.agg #[.slice pw s.words.length cw, .slice ph s.holds.length ch]) (.int .i64 who) (.agg #[.int .i64 r.id, .int .i64 r.kind, .int .i64 r.addr, .int .i64 r.many, .bool r.wrap, .slice pd r.data.length cd, .slice pl r.lanes.length cl]) A5 A7 KM KS KR wQ.heap.size K5 h5g hMg hMt hSg hSt hRg hRt) hcl rfl rfl rfl rfl (by kernel_rfl) (fun _ _ h => h) (fun done ρ W hat => ?_)
        have e0 : ρ (.tmp 0) = (.slice a ms.length cap) := hat.out 0 (by kernel_rfl)
        have hC := hat.cls
        have hc := hat.con
        simp only [execOp, e0]
        go_simp
      · simp at ho; subst ho
        refine fo_grow (st_xdb (.slice a ms.length cap) (.agg #[.slice pw s.words.length cw, .slice ph s.holds.length ch]) (.int .i64 who) (.agg #[.int .i64 r.id, .int .i64 r.kind, .int .i64 r.addr, .int .i64 r.many, .bool r.wrap, .slice pd r.data.length cd, .slice pl r.lanes.length cl]) A5 A7 KM KS KR wQ.heap.size K5 h5g hMg hMt hSg hSt hRg hRt) hcl rfl rfl (fun done ρ W hat => ?_)
        have e130 : ρ (.tmp 130) = .slice a ms.length cap := fIs_at (d := 130) (v := .slice a ms.length cap) (hat.fact 0 (by kernel_rfl))
        have hC := hat.cls
        have hf := hat.fn
        refine up_call 9 #[.slice a ms.length cap] (by simp only [execOp]; go_simp) ?_
        refine (HTM9.out W hC).mono ?_
        rintro e W1 ⟨⟨v, rfl, hKv⟩, hb⟩
        exact ⟨v, rfl, hC.trans (hb.mono hC.size), hb, fK_mk (by rw [updV_same]; exact hKv), free_spec (by kernel_rfl) hat.lt⟩
      · simp at ho; subst ho
        refine fo_det (st_xdb (.slice a ms.length cap) (.agg #[.slice pw s.words.length cw, .slice ph s.holds.length ch]) (.int .i64 who) (.agg #[.int .i64 r.id, .int .i64 r.kind, .int .i64 r.addr, .int .i64 r.many, .bool r.wrap, .slice pd r.data.length cd, .slice pl r.lanes.length cl]) A5 A7 KM KS KR wQ.heap.size K5 h5g hMg hMt hSg hSt hRg hRt) hcl rfl rfl rfl rfl (by kernel_rfl) (fun _ _ h => h) (fun done ρ W hat => ?_)
        have e5 : ρ (.tmp 5) = .pointer (some ⟨A5, 0, none⟩) := hat.out 5 (by kernel_rfl)
        have hC := hat.cls
        have hbx := (hC.block _ hl5).trans H5.out
        have c0 := (heap_cell hbx 0).trans rfl
        have c1 := (heap_cell hbx 1).trans rfl
        have hc := hat.con
        simp only [execOp, e5]
        go_simp
      · simp at ho; subst ho
        refine fo_grow (st_xdb (.slice a ms.length cap) (.agg #[.slice pw s.words.length cw, .slice ph s.holds.length ch]) (.int .i64 who) (.agg #[.int .i64 r.id, .int .i64 r.kind, .int .i64 r.addr, .int .i64 r.many, .bool r.wrap, .slice pd r.data.length cd, .slice pl r.lanes.length cl]) A5 A7 KM KS KR wQ.heap.size K5 h5g hMg hMt hSg hSt hRg hRt) hcl rfl rfl (fun done ρ W hat => ?_)
        have e132 : ρ (.tmp 132) = .agg #[.slice pw s.words.length cw, .slice ph s.holds.length ch] := fIs_at (d := 132) (v := .agg #[.slice pw s.words.length cw, .slice ph s.holds.length ch]) (hat.fact 2 (by kernel_rfl))
        have hC := hat.cls
        have hf := hat.fn
        refine up_call 10 #[.agg #[.slice pw s.words.length cw, .slice ph s.holds.length ch]] (by simp only [execOp]; go_simp) ?_
        refine (HTS9.out W hC).mono ?_
        rintro e W1 ⟨⟨v, rfl, hKv⟩, hb⟩
        exact ⟨v, rfl, hC.trans (hb.mono hC.size), hb, fK_mk (by rw [updV_same]; exact hKv), free_spec (by kernel_rfl) hat.lt⟩
      · simp at ho; subst ho
        refine fo_det (st_xdb (.slice a ms.length cap) (.agg #[.slice pw s.words.length cw, .slice ph s.holds.length ch]) (.int .i64 who) (.agg #[.int .i64 r.id, .int .i64 r.kind, .int .i64 r.addr, .int .i64 r.many, .bool r.wrap, .slice pd r.data.length cd, .slice pl r.lanes.length cl]) A5 A7 KM KS KR wQ.heap.size K5 h5g hMg hMt hSg hSt hRg hRt) hcl rfl rfl rfl rfl (by kernel_rfl) (fun _ _ h => h) (fun done ρ W hat => ?_)
        have e2 : ρ (.tmp 2) = (.int .i64 who) := hat.out 2 (by kernel_rfl)
        have hC := hat.cls
        have hc := hat.con
        simp only [execOp, e2]
        go_simp
      · simp at ho; subst ho
        refine fo_det (st_xdb (.slice a ms.length cap) (.agg #[.slice pw s.words.length cw, .slice ph s.holds.length ch]) (.int .i64 who) (.agg #[.int .i64 r.id, .int .i64 r.kind, .int .i64 r.addr, .int .i64 r.many, .bool r.wrap, .slice pd r.data.length cd, .slice pl r.lanes.length cl]) A5 A7 KM KS KR wQ.heap.size K5 h5g hMg hMt hSg hSt hRg hRt) hcl rfl rfl rfl rfl (by kernel_rfl) (fun _ _ h => h) (fun done ρ W hat => ?_)
        have e7 : ρ (.tmp 7) = .pointer (some ⟨A7, 0, none⟩) := hat.out 7 (by kernel_rfl)
        have hC := hat.cls
        have hbx := (hC.block _ hl7).trans H7.out
        have c0 := (heap_cell hbx 0).trans rfl
        have c1 := (heap_cell hbx 1).trans rfl
        have c2 := (heap_cell hbx 2).trans rfl
        have c3 := (heap_cell hbx 3).trans rfl
        have c4 := (heap_cell hbx 4).trans rfl
        have c5 := (heap_cell hbx 5).trans rfl
        have c6 := (heap_cell hbx 6).trans rfl
        have hc := hat.con
        simp only [execOp, e7]
        go_simp
      · simp at ho; subst ho
        refine fo_grow (st_xdb (.slice a ms.length cap) (.agg #[.slice pw s.words.length cw, .slice ph s.holds.length ch]) (.int .i64 who) (.agg #[.int .i64 r.id, .int .i64 r.kind, .int .i64 r.addr, .int .i64 r.many, .bool r.wrap, .slice pd r.data.length cd, .slice pl r.lanes.length cl]) A5 A7 KM KS KR wQ.heap.size K5 h5g hMg hMt hSg hSt hRg hRt) hcl rfl rfl (fun done ρ W hat => ?_)
        have e135 : ρ (.tmp 135) = .agg #[.int .i64 r.id, .int .i64 r.kind, .int .i64 r.addr, .int .i64 r.many, .bool r.wrap, .slice pd r.data.length cd, .slice pl r.lanes.length cl] := fIs_at (d := 135) (v := .agg #[.int .i64 r.id, .int .i64 r.kind, .int .i64 r.addr, .int .i64 r.many, .bool r.wrap, .slice pd r.data.length cd, .slice pl r.lanes.length cl]) (hat.fact 5 (by kernel_rfl))
        have hC := hat.cls
        have hf := hat.fn
        refine up_call 11 #[.agg #[.int .i64 r.id, .int .i64 r.kind, .int .i64 r.addr, .int .i64 r.many, .bool r.wrap, .slice pd r.data.length cd, .slice pl r.lanes.length cl]] (by simp only [execOp]; go_simp) ?_
        refine (HTR9.out W hC).mono ?_
        rintro e W1 ⟨⟨v, rfl, hKv⟩, hb⟩
        exact ⟨v, rfl, hC.trans (hb.mono hC.size), hb, fK_mk (by rw [updV_same]; exact hKv), free_spec (by kernel_rfl) hat.lt⟩
      · simp at ho; subst ho
        refine fo_grow (st_xdb (.slice a ms.length cap) (.agg #[.slice pw s.words.length cw, .slice ph s.holds.length ch]) (.int .i64 who) (.agg #[.int .i64 r.id, .int .i64 r.kind, .int .i64 r.addr, .int .i64 r.many, .bool r.wrap, .slice pd r.data.length cd, .slice pl r.lanes.length cl]) A5 A7 KM KS KR wQ.heap.size K5 h5g hMg hMt hSg hSt hRg hRt) hcl rfl rfl (fun done ρ W hat => ?_)
        have e134 : ρ (.tmp 134) = (.int .i64 who) := fIs_at (d := 134) (v := (.int .i64 who)) (hat.fact 4 (by kernel_rfl))
        have hC := hat.cls
        have hf := hat.fn
        have qM : KM W (ρ (.tmp 131)) := fK_at (d := 131) (K := KM) (hat.fact 1 (by kernel_rfl))
        obtain ⟨vM, eM⟩ : ∃ v, ρ (.tmp 131) = v := ⟨_, rfl⟩
        rw [eM] at qM
        have qS : KS W (ρ (.tmp 133)) := fK_at (d := 133) (K := KS) (hat.fact 3 (by kernel_rfl))
        obtain ⟨vS, eS⟩ : ∃ v, ρ (.tmp 133) = v := ⟨_, rfl⟩
        rw [eS] at qS
        have qR : KR W (ρ (.tmp 136)) := fK_at (d := 136) (K := KR) (hat.fact 6 (by kernel_rfl))
        obtain ⟨vR, eR⟩ : ∃ v, ρ (.tmp 136) = v := ⟨_, rfl⟩
        rw [eR] at qR
        refine up_call 12 #[vM, vS, .int .i64 who, vR] (by simp only [execOp]; go_simp) ?_
        refine (HDO9.out vM vS vR W hC qM qS qR).mono ?_
        rintro e W1 ⟨⟨v, rfl, hKv⟩, hb⟩
        exact ⟨v, rfl, hC.trans (hb.mono hC.size), hb, fK_mk (by rw [updV_same]; exact hKv), free_spec (by kernel_rfl) hat.lt⟩
      · simp at ho; subst ho
        refine fo_grow (st_xdb (.slice a ms.length cap) (.agg #[.slice pw s.words.length cw, .slice ph s.holds.length ch]) (.int .i64 who) (.agg #[.int .i64 r.id, .int .i64 r.kind, .int .i64 r.addr, .int .i64 r.many, .bool r.wrap, .slice pd r.data.length cd, .slice pl r.lanes.length cl]) A5 A7 KM KS KR wQ.heap.size K5 h5g hMg hMt hSg hSt hRg hRt) hcl rfl rfl (fun done ρ W hat => ?_)
        have hC := hat.cls
        have hK : K5 W (ρ (.tmp 137)) := (fK_at (d := 137) (K := K5) (hat.fact 7 (by kernel_rfl)))
        refine up_val (ρ (.tmp 137)) W (by simp only [execOp]; go_simp) ⟨hC, Gr.refl _, fK_mk (by rw [updV_same]; exact hK), free_spec (by kernel_rfl) hat.lt⟩
      · simp at ho; subst ho
        refine fo_grow (st_xdb (.slice a ms.length cap) (.agg #[.slice pw s.words.length cw, .slice ph s.holds.length ch]) (.int .i64 who) (.agg #[.int .i64 r.id, .int .i64 r.kind, .int .i64 r.addr, .int .i64 r.many, .bool r.wrap, .slice pd r.data.length cd, .slice pl r.lanes.length cl]) A5 A7 KM KS KR wQ.heap.size K5 h5g hMg hMt hSg hSt hRg hRt) hcl rfl rfl (fun done ρ W hat => ?_)
        have hC := hat.cls
        have hK : K5 W (ρ (.tmp 129)) := (fK_at (d := 129) (K := K5) (hat.fact 8 (by kernel_rfl)))
        obtain ⟨va, vb, em⟩ := h5t _ _ hK
        refine up_val va W (by simp only [execOp]; go_simp) ⟨hC, Gr.refl _, ⟨vb, ?_⟩, free_spec (by kernel_rfl) hat.lt⟩
        exact em
      · simp at ho; subst ho
        refine fo_grow (st_xdb (.slice a ms.length cap) (.agg #[.slice pw s.words.length cw, .slice ph s.holds.length ch]) (.int .i64 who) (.agg #[.int .i64 r.id, .int .i64 r.kind, .int .i64 r.addr, .int .i64 r.many, .bool r.wrap, .slice pd r.data.length cd, .slice pl r.lanes.length cl]) A5 A7 KM KS KR wQ.heap.size K5 h5g hMg hMt hSg hSt hRg hRt) hcl rfl rfl (fun done ρ W hat => ?_)
        have hC := hat.cls
        have hK : K5 W (ρ (.tmp 129)) := (fK_at (d := 129) (K := K5) (hat.fact 8 (by kernel_rfl)))
        obtain ⟨va, vb, em⟩ := h5t _ _ hK
        refine up_val vb W (by simp only [execOp]; go_simp) ⟨hC, Gr.refl _, ⟨va, ?_⟩, free_spec (by kernel_rfl) hat.lt⟩
        exact em
      · simp at ho; subst ho
        refine fo_grow (st_xdb (.slice a ms.length cap) (.agg #[.slice pw s.words.length cw, .slice ph s.holds.length ch]) (.int .i64 who) (.agg #[.int .i64 r.id, .int .i64 r.kind, .int .i64 r.addr, .int .i64 r.many, .bool r.wrap, .slice pd r.data.length cd, .slice pl r.lanes.length cl]) A5 A7 KM KS KR wQ.heap.size K5 h5g hMg hMt hSg hSt hRg hRt) hcl rfl rfl (fun done ρ W hat => ?_)
        have hC := hat.cls
        refine up_val (.pointer (some ⟨W.heap.size, 0, none⟩)) (W.alloc (.cells #[.slice none 0 0, .slice none 0 0] 35)) (by simp only [execOp]; go_simp) ⟨hC.trans ((below_nw _ _).mono hC.size), below_nw _ _, ⟨W.heap.size, _, _, ?_, hC.size, nw_at _ rfl⟩, free_spec (by kernel_rfl) hat.lt⟩
        exact rfl
      · simp at ho; subst ho
        refine fo_grow (st_xdb (.slice a ms.length cap) (.agg #[.slice pw s.words.length cw, .slice ph s.holds.length ch]) (.int .i64 who) (.agg #[.int .i64 r.id, .int .i64 r.kind, .int .i64 r.addr, .int .i64 r.many, .bool r.wrap, .slice pd r.data.length cd, .slice pl r.lanes.length cl]) A5 A7 KM KS KR wQ.heap.size K5 h5g hMg hMt hSg hSt hRg hRt) hcl rfl rfl (fun done ρ W hat => ?_)
        have hC := hat.cls
        refine up_val (.pointer (some ⟨W.heap.size, 0, none⟩)) (W.alloc (.cells #[.int .i64 0, .int .i64 0, .slice none 0 0] 37)) (by simp only [execOp]; go_simp) ⟨hC.trans ((below_nw _ _).mono hC.size), below_nw _ _, ⟨W.heap.size, _, _, _, ?_, hC.size, nw_at _ rfl⟩, free_spec (by kernel_rfl) hat.lt⟩
        exact rfl
      · simp at ho; subst ho
        refine fo_rel (S := KT 35) (E := [11, 13]) (kta_xdb (.slice a ms.length cap) (.agg #[.slice pw s.words.length cw, .slice ph s.holds.length ch]) (.int .i64 who) (.agg #[.int .i64 r.id, .int .i64 r.kind, .int .i64 r.addr, .int .i64 r.many, .bool r.wrap, .slice pd r.data.length cd, .slice pl r.lanes.length cl]) A5 A7 KM KS KR wQ.heap.size K5 h5ta hMg hMt hSg hSt hRg hRt) hcl rfl rfl (fun done ρ W hat => ?_)
        have hC := hat.cls
        have hK : K5 W (ρ (.tmp 129)) := (fK_at (d := 129) (K := K5) (hat.fact 8 (by kernel_rfl)))
        obtain ⟨bb, ex⟩ := hat.fact 9 (by kernel_rfl)
        obtain ⟨b, o0, o1, eb, hMb, hbx⟩ := hat.fact 11 (by kernel_rfl)
        have ex : ρ (.tmp 129) = .tuple #[ρ (.tmp 138), bb] := ex
        have eb : ρ (.tmp 20) = .pointer (some ⟨b, 0, none⟩) := eb
        obtain ⟨p0, n0, k0, p1, n1, k1, v2, ev⟩ := h5s _ _ hK
        rw [ev] at ex
        simp only [Value.tuple.injEq, List.toArray_inj, Array.mk.injEq, List.cons.injEq] at ex
        have ex : ρ (.tmp 138) = .agg #[.slice p0 n0 k0, .slice p1 n1 k1] := ex.1.symm
        have hR1 := heap_set hbx 0 (.slice p0 n0 k0)
        refine up_store2 rfl eb ex hbx ⟨(hC.setCell (p := ⟨b, 0, none⟩) hMb _).setCell (p := ⟨b, 1, none⟩) hMb _, (KT.set hbx _).trans (KT.set hR1 _), ⟨b, _, _, eb, hMb, ex, (heap_set hR1 1 _).trans rfl⟩, fun j hj hcj => ?_⟩
        rcases aska_xdb j (hat.lt j hj) hcj with rfl | rfl
        · exact ⟨b, _, _, eb, hMb, (heap_set hR1 1 _).trans rfl⟩
        · rw [hat.new] at hj; cases hj
      · simp at ho; subst ho
        refine fo_rel (S := KT 37) (E := [12, 14]) (ktb_xdb (.slice a ms.length cap) (.agg #[.slice pw s.words.length cw, .slice ph s.holds.length ch]) (.int .i64 who) (.agg #[.int .i64 r.id, .int .i64 r.kind, .int .i64 r.addr, .int .i64 r.many, .bool r.wrap, .slice pd r.data.length cd, .slice pl r.lanes.length cl]) A5 A7 KM KS KR wQ.heap.size K5 h5tb hMg hMt hSg hSt hRg hRt) hcl rfl rfl (fun done ρ W hat => ?_)
        have hC := hat.cls
        have hK : K5 W (ρ (.tmp 129)) := (fK_at (d := 129) (K := K5) (hat.fact 8 (by kernel_rfl)))
        obtain ⟨bb, ex⟩ := hat.fact 10 (by kernel_rfl)
        obtain ⟨b, o0, o1, o2, eb, hMb, hbx⟩ := hat.fact 12 (by kernel_rfl)
        have ex : ρ (.tmp 129) = .tuple #[bb, ρ (.tmp 139)] := ex
        have eb : ρ (.tmp 21) = .pointer (some ⟨b, 0, none⟩) := eb
        obtain ⟨va, i0, i1, p2, n2, k2, ev⟩ := h5x _ _ hK
        rw [ev] at ex
        simp only [Value.tuple.injEq, List.toArray_inj, Array.mk.injEq, List.cons.injEq] at ex
        have ex : ρ (.tmp 139) = .agg #[.int .i64 i0, .int .i64 i1, .slice p2 n2 k2] := ex.2.1.symm
        have hR1 := heap_set hbx 0 (.int .i64 i0)
        have hR2 := heap_set hR1 1 (.int .i64 i1)
        refine up_store3 rfl eb ex hbx ⟨((hC.setCell (p := ⟨b, 0, none⟩) hMb _).setCell (p := ⟨b, 1, none⟩) hMb _).setCell (p := ⟨b, 2, none⟩) hMb _, ((KT.set hbx _).trans (KT.set hR1 _)).trans (KT.set hR2 _), ⟨b, _, _, _, eb, hMb, ex, (heap_set hR2 2 _).trans rfl⟩, fun j hj hcj => ?_⟩
        rcases askb_xdb j (hat.lt j hj) hcj with rfl | rfl
        · exact ⟨b, _, _, _, eb, hMb, (heap_set hR2 2 _).trans rfl⟩
        · rw [hat.new] at hj; cases hj
      · simp at ho
    case c0 => exact (Below.refl _ _).drew
    case done =>
      intro f w24 hC hf hout
      have hK : K5 w24 (f 129) := fK_at (d := 129) (K := K5) (hf 8 (by decide))
      obtain ⟨vb, ex0⟩ : ∃ b, f 129 = .tuple #[f 138, b] := hf 9 (by decide)
      obtain ⟨va, ex1⟩ : ∃ b, f 129 = .tuple #[b, f 139] := hf 10 (by decide)
      obtain ⟨P1, u0, u1, eb0, hM0, ev0, H0⟩ : ∃ b v0 v1, f 20 = .pointer (some ⟨b, 0, none⟩) ∧ wQ.heap.size ≤ b ∧ f 138 = .agg #[v0, v1] ∧ w24.heap[b]? = some (.cells #[v0, v1] 35 (0, 0)) := hf 13 (by decide)
      obtain ⟨O1, t0, t1, t2, eb1, hM1, ev1, H1⟩ : ∃ b v0 v1 v2, f 21 = .pointer (some ⟨b, 0, none⟩) ∧ wQ.heap.size ≤ b ∧ f 139 = .agg #[v0, v1, v2] ∧ w24.heap[b]? = some (.cells #[v0, v1, v2] 37 (0, 0)) := hf 14 (by decide)
      rw [HK5.out] at hK
      obtain ⟨nw, nm, nh, nn, nx, nk, eK, hOn⟩ := hK
      rw [eK] at ex0 ex1
      simp only [Value.tuple.injEq, List.toArray_inj, Array.mk.injEq, List.cons.injEq] at ex0 ex1
      rw [← ex0.1] at ev0
      rw [← ex1.2.1] at ev1
      cases ev0
      cases ev1
      have HOn := Hid.intro hOn
      have HBn0 := Hid.intro H0
      have HBn1 := Hid.intro H1
      have ln0 := heap_lt H0
      have ln1 := heap_lt H1
      have HCn := Hid.intro hC
      clear hf hout ex0 ex1 eK hOn H0 H1 h5g h5ta h5tb h5t h5s h5x HK5 hC
      simp only [fill, eb0, eb1]
      go_simp
      clear eb0 eb1
      have HN24 := Hid.intro (HNQ.out.trans (HCn.out.mono ltQ.out.2.2))
      have HG24 := Hid.intro (And.intro ((HCn.out.block G0 ltQ.out.1).trans HGQ.out.1) ((HCn.out.block G1 ltQ.out.2.1).trans HGQ.out.2))
      have HM24 := Hid.intro (And.intro (HMQ.out.1.below HCn.out) (And.intro (HMQ.out.2.1.below HCn.out) (HMQ.out.2.2.below HCn.out)))
      have lt24 : Hid (G0 < w24.heap.size ∧ G1 < w24.heap.size ∧ N0 ≤ w24.heap.size) := Hid.intro (by have := ltQ.out; have := HCn.out.size; omega)
      clear HNQ HGQ HMQ ltQ HBW9 H5 H7 hl5 hl7 HCn hM0 hM1 HTM9 HTS9 HTR9 HDO9
      have a0 : w24.cell? ⟨P1, 0, none⟩ = some (.slice nw zs.words.length nm) := heap_cell (HBn0.out) 0
      have a1 : w24.cell? ⟨P1, 1, none⟩ = some (.slice nh zs.holds.length nn) := heap_cell (HBn0.out) 1
      have b0 : w24.cell? ⟨P, 0, none⟩ = some (.slice mw zs.words.length mm) := heap_cell ((HOm'.out w24 HN24.out).2.1) 0
      have b1 : w24.cell? ⟨P, 1, none⟩ = some (.slice mh zs.holds.length mn) := heap_cell ((HOm'.out w24 HN24.out).2.1) 1
      go_wp2_with fail
      refine (EQA.out nw nh nm nn w24 HOn.out.st (HOm'.out w24 HN24.out).1.st).mono ?_
      rintro e w25 ⟨rfl, hb⟩
      have HN25 := Hid.intro (HN24.out.trans (hb.mono lt24.out.2.2))
      have HO25 := Hid.intro (HOn.out.below hb)
      have hq1 := (hb.block O1 ln1).trans HBn1.out
      have HG25 := Hid.intro (And.intro ((hb.block G0 lt24.out.1).trans HG24.out.1) ((hb.block G1 lt24.out.2.1).trans HG24.out.2))
      have HM25 := Hid.intro (And.intro (HM24.out.1.below hb) (And.intro (HM24.out.2.1.below hb) (HM24.out.2.2.below hb)))
      have lt25 : Hid (G0 < w25.heap.size ∧ G1 < w25.heap.size ∧ N0 ≤ w25.heap.size) := Hid.intro (by have := lt24.out; have := hb.size; omega)
      clear HN24 HOn HBn0 HBn1 ln0 ln1 HG24 HM24 lt24 a0 a1 b0 b1 hb
      have a0 : w25.cell? ⟨O1, 0, none⟩ = some (.int .i64 zr.id) := heap_cell (hq1) 0
      have a1 : w25.cell? ⟨O1, 1, none⟩ = some (.int .i64 zr.code) := heap_cell (hq1) 1
      have a2 : w25.cell? ⟨O1, 2, none⟩ = some (.slice nx zr.data.length nk) := heap_cell (hq1) 2
      have b0 : w25.cell? ⟨O, 0, none⟩ = some (.int .i64 zr.id) := heap_cell ((HOm'.out w25 HN25.out).2.2.1) 0
      have b1 : w25.cell? ⟨O, 1, none⟩ = some (.int .i64 zr.code) := heap_cell ((HOm'.out w25 HN25.out).2.2.1) 1
      have b2 : w25.cell? ⟨O, 2, none⟩ = some (.slice mx zr.data.length mk) := heap_cell ((HOm'.out w25 HN25.out).2.2.1) 2
      clear hq1
      go_wp2_with fail
      refine (EQR.out nx nk w25 HO25.out.rsp (HOm'.out w25 HN25.out).1.rsp).mono ?_
      rintro e w26 ⟨rfl, hb⟩
      have HN26 := Hid.intro (HN25.out.trans (hb.mono lt25.out.2.2))
      have HG26 := Hid.intro (And.intro ((hb.block G0 lt25.out.1).trans HG25.out.1) ((hb.block G1 lt25.out.2.1).trans HG25.out.2))
      have HM26 := Hid.intro (And.intro (HM25.out.1.below hb) (And.intro (HM25.out.2.1.below hb) (HM25.out.2.2.below hb)))
      have lt26 : Hid (G0 < w26.heap.size ∧ G1 < w26.heap.size ∧ N0 ≤ w26.heap.size) := Hid.intro (by have := lt25.out; have := hb.size; omega)
      clear HN25 HO25 HG25 HM25 lt25 a0 a1 a2 b0 b1 b2 hb
      have a0 : w26.cell? ⟨G0, 0, none⟩ = some (.slice kw zs.words.length km) := heap_cell (HG26.out.1) 0
      have a1 : w26.cell? ⟨G0, 1, none⟩ = some (.slice kh zs.holds.length kn) := heap_cell (HG26.out.1) 1
      go_wp2_with fail
      refine (heldAtm_any kw kh km kn zs.words.length zs.holds.length 1 w26 HM26.out.1 HM26.out.2.1 (by omega) (by omega) (by have := HZL.out; omega) (by have := HZL.out; omega) HCP.out.1 HCP.out.2.1 HCP.out.2.2.1 HCP.out.2.2.2.1).mono ?_
      rintro e w27 ⟨rfl, hb⟩
      have HN27 := Hid.intro (HN26.out.trans (hb.mono lt26.out.2.2))
      have hq1 := (hb.block G1 lt26.out.2.1).trans HG26.out.2
      have HM27 := Hid.intro (HM26.out.2.2.below hb)
      have lt27 : Hid (N0 ≤ w27.heap.size) := Hid.intro (by have := lt26.out; have := hb.size; omega)
      clear HN26 HG26 HM26 lt26 a0 a1 hb
      have a0 : w27.cell? ⟨G1, 0, none⟩ = some (.int .i64 zr.id) := heap_cell (hq1) 0
      have a1 : w27.cell? ⟨G1, 1, none⟩ = some (.int .i64 zr.code) := heap_cell (hq1) 1
      have a2 : w27.cell? ⟨G1, 2, none⟩ = some (.slice kx zr.data.length kk) := heap_cell (hq1) 2
      clear hq1
      go_wp2_with fail
      refine (heldRsp_any kx kk zr.data.length zr.id zr.code (1 + (zs.words.length : Int) + (zs.holds.length : Int)) w27 HM27.out (by omega) (by have := HZL.out; omega) (by have := HZL.out; omega) HCP.out.2.2.2.2.1 HCP.out.2.2.2.2.2.1).mono ?_
      rintro e w28 ⟨rfl, hb⟩
      have hend := (HOm'.out w28 (HN27.out.trans (hb.mono lt27.out))).2.2.2.2.2
      clear HN27 HM27 lt27 a0 a1 a2 hb
      go_wp2
      go_ret
      exact ⟨rfl, hend⟩

end Go.Proofs.YtpbkpfdbdfnlbaaGreat
