/-
  Proved: a burst is its words, one by one: what reads, or writes, a burst, where it may, leaves the store, and what is held, as its words by themselves do, in order, and tells their words. At every code (a row of bytes of any length) the law answers true and leaves its argument as it was. No condition.
-/
import Derived.Test.YtpbkpfdbdfnlbaaProg
import Derived.Test.YtpbkpfdbdfnlbaaCrOkM
import Derived.Test.YtpbkpfdbdfnlbaaSpcH
import Derived.Test.YtpbkpfdbdfnlbaaBurstP
import Derived.Test.YtpbkpfdbdfnlbaaBurstM
import Derived.Test.YtpbkpfdbdfnlbaaAppS
import Derived.Test.YtpbkpfdbdfnlbaaRunLM
import Derived.BigQuiet
import Derived.Test.YtpbkpfdbdfnlbaaRows
import Derived.Test.YtpbkpfdbdfnlbaaLawB
import Derived.Test.YtpbkpfdbdfnlbaaImpKM
/-
  The law FnAtmBurst, walked, by what AtmDo of the program answers.
-/
namespace Go.Proofs.Ytpbkpfdbdfnlbaa
open Go.RowKit
set_option linter.unusedSimpArgs false
set_option linter.unusedVariables false

theorem IntsAt.off {w w' : World} {a : Option Addr} {l : List Int} (h : IntsAt w a l) (hs : w.heap.size ≤ w'.heap.size) (hb : l ≠ [] → ∀ b off, a = some ⟨b, off, none⟩ → b < w.heap.size → w'.heap[b]? = w.heap[b]?) : IntsAt w' a l := by
  by_cases h0 : l = []
  · exact .inl h0
  · exact h.of hs (hb h0)
/-- what stands ahead of a round -/
structure BInv (w5 : World) (M Y : Nat) (y : Stt) (pw : Option Addr) (cw : Nat) (ph : Option Addr) (ch : Nat) (ws : List Int) (g cp : Nat) (wr : World) : Prop where
  bel : Below M w5 wr
  bY : wr.heap[Y]? = some (.cells #[.slice pw y.words.length cw, .slice ph y.holds.length ch] 28 (0, 0))
  st : StAt wr y pw cw ph ch
  offw : y.words ≠ [] → ∀ b off, pw = some ⟨b, off, none⟩ → b ≠ Y ∧ b ≠ g
  offh : y.holds ≠ [] → ∀ b off, ph = some ⟨b, off, none⟩ → b ≠ Y ∧ b ≠ g
  row : ORow 3 1 wr g cp ws.length (ws.map (Value.int .i64))
  cp1 : cp ≤ maxLen
  gM : M ≤ g
  YM : M ≤ Y
  gY : g ≠ Y
  MS : M ≤ w5.heap.size
theorem BInv.step {w5 : World} {M Y : Nat} {y : Stt} {pw ph : Option Addr} {cw ch : Nat} {ws : List Int} {g cp : Nat} {wr w1 : World} (h : BInv w5 M Y y pw cw ph ch ws g cp wr) (hb1 : Below wr.heap.size wr w1)
    {zs : Stt} {x : Rsp} {qw qh p : Option Addr} {dw dh c : Nat} (hO : AtmOut wr.heap.size w1 zs x qw dw qh dh p c) {v : Value} {w4 : World}
    (hA : AppPost ((w1.setCell ⟨Y, 0, none⟩ (.slice qw zs.words.length dw)).setCell ⟨Y, 1, none⟩ (.slice qh zs.holds.length dh)) g (ws ++ x.data) v w4) (hlen : (ws ++ x.data).length ≤ 1000) :
    ∃ g' cp', v = .slice (some ⟨g', 0, none⟩) (ws ++ x.data).length cp' ∧ BInv w5 M Y zs qw dw qh dh (ws ++ x.data) g' cp' w4 := by
  have hYl := heap_lt h.bY
  have hx1 := (hb1.block _ hYl).trans h.bY
  have hx2 := set2 hx1 (.slice qw zs.words.length dw) (.slice qh zs.holds.length dh)
  have hk2 := set2_kept w1 Y (.slice qw zs.words.length dw) (.slice qh zs.holds.length dh)
  generalize (w1.setCell ⟨Y, 0, none⟩ (.slice qw zs.words.length dw)).setCell ⟨Y, 1, none⟩ (.slice qh zs.holds.length dh) = w2 at hx2 hk2 hA
  obtain ⟨g', cp', e, hr, hc1, hc2, hg, hG⟩ := hA
  have s0 := h.bel.size
  have s1 := hb1.size
  have s2 := hk2.size
  have s4 := hG.size
  have hgl := h.row.lt
  have hgM := h.gM
  have hYM := h.YM
  have hgY := h.gY
  have hMS := h.MS
  have blk : ∀ b, b < w1.heap.size → b ≠ Y → b ≠ g → w4.heap[b]? = w1.heap[b]? := fun b hb n1 n2 => (hG.block b (by omega) n2).trans (hk2.block b hb n1)
  have own : ∀ (q : Option Addr) (cq : Nat) (l : List Int), OwnN wr.heap.size w1 q cq l → IntsAt w4 q l ∧ (l ≠ [] → ∀ b off, q = some ⟨b, off, none⟩ → b ≠ Y ∧ b ≠ g') := fun q cq l hq => by
    rcases hq with hq | ⟨b, e, hb, hO⟩
    · exact ⟨.inl hq, fun h0 => absurd hq h0⟩
    · have hlt := hO.lt
      refine ⟨?_, fun _ b' off e' => by rw [e'] at e; cases e; omega⟩
      rw [e]
      exact (hO.of (blk b hlt (by omega) (by omega))).ints
  obtain ⟨iw, ow⟩ := own _ _ _ hO.words
  obtain ⟨ih, oh⟩ := own _ _ _ hO.holds
  refine ⟨g', cp', e, ⟨?_, ?_, ?_, by omega, fun b hb => ?_⟩, ?_, ⟨iw, ih, hO.cw1, hO.cw2, hO.ch1, hO.ch2⟩, ow, oh, hr, by unfold maxLen; omega, by omega, hYM, by omega, hMS⟩
  · exact hG.os.trans (hk2.os.trans (hb1.os.trans h.bel.os))
  · exact hG.tape.trans (hk2.tape.trans (hb1.tape.trans h.bel.tape))
  · exact hG.output.trans (hk2.output.trans (hb1.output.trans h.bel.output))
  · exact (blk b (by omega) (by omega) (by omega)).trans ((hb1.block b (by omega)).trans (h.bel.block b hb))
  · exact (hG.block Y (by omega) (Ne.symm hgY)).trans hx2

def fl_brs (vl vs vw vq va vk vp vi : Value) (BY BQ : Nat) (KQ : World → Value → Prop) (M : Nat) (K5 : World → Value → Prop) : List Fact := [
  fIs 77 (vl),
  fIs 78 (vs),
  fIs 79 (vw),
  fIs 80 (vq),
  fIs 81 (va),
  fIs 82 (vk),
  fIs 83 (vp),
  fIs 84 (vi),
  fIs 85 (vk),
  fK 86 KQ,
  fK 87 K5,
  fK 76 K5,
  ⟨[76, 88], [], fun s _ _ => ∃ b, s 76 = .tuple #[s 88, b]⟩,
  ⟨[76, 89], [], fun s _ _ => ∃ b, s 76 = .tuple #[b, s 89]⟩,
  ⟨[15], [], fun s _ w => ∃ b v0 v1, s 15 = .pointer (some ⟨b, 0, none⟩) ∧ M ≤ b ∧ w.heap[b]? = some (.cells #[v0, v1] 28 (0, 0))⟩,
  ⟨[16], [], fun s _ w => ∃ b v0 v1 v2, s 16 = .pointer (some ⟨b, 0, none⟩) ∧ M ≤ b ∧ w.heap[b]? = some (.cells #[v0, v1, v2] 44 (0, 0))⟩,
  ⟨[15, 88], [], fun s _ w => ∃ b v0 v1, s 15 = .pointer (some ⟨b, 0, none⟩) ∧ M ≤ b ∧ s 88 = .agg #[v0, v1] ∧ w.heap[b]? = some (.cells #[v0, v1] 28 (0, 0))⟩,
  ⟨[16, 89], [], fun s _ w => ∃ b v0 v1 v2, s 16 = .pointer (some ⟨b, 0, none⟩) ∧ M ≤ b ∧ s 89 = .agg #[v0, v1, v2] ∧ w.heap[b]? = some (.cells #[v0, v1, v2] 44 (0, 0))⟩]

theorem st_brs (vl vs vw vq va vk vp vi : Value) (BY BQ : Nat) (KQ : World → Value → Prop) (M : Nat) (K5 : World → Value → Prop) (h5g : ∀ w w' v, Gr w w' → K5 w v → K5 w' v) (hQg : ∀ w w' v, Gr w w' → KQ w v → KQ w' v) (hQt : ∀ (t : Nat) w w' v, t ≠ 3 → KT t w w' → KQ w v → KQ w' v) : ∀ F ∈ fl_brs vl vs vw vq va vk vp vi BY BQ KQ M K5, F.Stab :=
  stab_cons (fIs_stab _ _) <|
  stab_cons (fIs_stab _ _) <|
  stab_cons (fIs_stab _ _) <|
  stab_cons (fIs_stab _ _) <|
  stab_cons (fIs_stab _ _) <|
  stab_cons (fIs_stab _ _) <|
  stab_cons (fIs_stab _ _) <|
  stab_cons (fIs_stab _ _) <|
  stab_cons (fIs_stab _ _) <|
  stab_cons (fK_stab hQg) <|
  stab_cons (fK_stab h5g) <|
  stab_cons (fK_stab h5g) <|
  stab_cons (fun _ _ _ _ _ h => h) <|
  stab_cons (fun _ _ _ _ _ h => h) <|
  stab_cons (fun _ _ _ _ hg h => (let ⟨b, v0, v1, h1, h2, h3⟩ := h; ⟨b, v0, v1, h1, h2, hg.cells h3⟩)) <|
  stab_cons (fun _ _ _ _ hg h => (let ⟨b, v0, v1, v2, h1, h2, h3⟩ := h; ⟨b, v0, v1, v2, h1, h2, hg.cells h3⟩)) <|
  stab_cons (fun _ _ _ _ hg h => (let ⟨b, v0, v1, h1, h2, h3, h4⟩ := h; ⟨b, v0, v1, h1, h2, h3, hg.cells h4⟩)) <|
  stab_cons (fun _ _ _ _ hg h => (let ⟨b, v0, v1, v2, h1, h2, h3, h4⟩ := h; ⟨b, v0, v1, v2, h1, h2, h3, hg.cells h4⟩)) stab_nil

theorem kta_brs (vl vs vw vq va vk vp vi : Value) (BY BQ : Nat) (KQ : World → Value → Prop) (M : Nat) (K5 : World → Value → Prop) (h5t : ∀ w w' v, KT 28 w w' → K5 w v → K5 w' v) (hQg : ∀ w w' v, Gr w w' → KQ w v → KQ w' v) (hQt : ∀ (t : Nat) w w' v, t ≠ 3 → KT t w w' → KQ w v → KQ w' v) : ∀ j, [14, 16].contains j = false → ∀ s d w w', KT 28 w w' → (factsOf (fl_brs vl vs vw vq va vk vp vi BY BQ KQ M K5) j).body s d w → (factsOf (fl_brs vl vs vw vq va vk vp vi BY BQ KQ M K5) j).body s d w' := by
  intro j hj s d w w' hk hb
  rcases j with _ | _ | _ | _ | _ | _ | _ | _ | _ | _ | _ | _ | _ | _ | _ | _ | _ | _ | j
  · exact hb
  · exact hb
  · exact hb
  · exact hb
  · exact hb
  · exact hb
  · exact hb
  · exact hb
  · exact hb
  · exact hQt _ _ _ _ (by decide) hk hb
  · exact h5t _ _ _ hk hb
  · exact h5t _ _ _ hk hb
  · exact hb
  · exact hb
  · simp at hj
  · obtain ⟨b, v0, v1, v2, h1, h2, h3⟩ := hb; exact ⟨b, v0, v1, v2, h1, h2, hk.cells h3 (by decide)⟩
  · simp at hj
  · obtain ⟨b, v0, v1, v2, h1, h2, h3, h4⟩ := hb; exact ⟨b, v0, v1, v2, h1, h2, h3, hk.cells h4 (by decide)⟩
  · trivial

theorem ktb_brs (vl vs vw vq va vk vp vi : Value) (BY BQ : Nat) (KQ : World → Value → Prop) (M : Nat) (K5 : World → Value → Prop) (h5t : ∀ w w' v, KT 44 w w' → K5 w v → K5 w' v) (hQg : ∀ w w' v, Gr w w' → KQ w v → KQ w' v) (hQt : ∀ (t : Nat) w w' v, t ≠ 3 → KT t w w' → KQ w v → KQ w' v) : ∀ j, [15, 17].contains j = false → ∀ s d w w', KT 44 w w' → (factsOf (fl_brs vl vs vw vq va vk vp vi BY BQ KQ M K5) j).body s d w → (factsOf (fl_brs vl vs vw vq va vk vp vi BY BQ KQ M K5) j).body s d w' := by
  intro j hj s d w w' hk hb
  rcases j with _ | _ | _ | _ | _ | _ | _ | _ | _ | _ | _ | _ | _ | _ | _ | _ | _ | _ | j
  · exact hb
  · exact hb
  · exact hb
  · exact hb
  · exact hb
  · exact hb
  · exact hb
  · exact hb
  · exact hb
  · exact hQt _ _ _ _ (by decide) hk hb
  · exact h5t _ _ _ hk hb
  · exact h5t _ _ _ hk hb
  · exact hb
  · exact hb
  · obtain ⟨b, v0, v1, h1, h2, h3⟩ := hb; exact ⟨b, v0, v1, h1, h2, hk.cells h3 (by decide)⟩
  · simp at hj
  · obtain ⟨b, v0, v1, h1, h2, h3, h4⟩ := hb; exact ⟨b, v0, v1, h1, h2, h3, hk.cells h4 (by decide)⟩
  · simp at hj
  · trivial

theorem aska_brs {vl vs vw vq va vk vp vi : Value} {BY BQ : Nat} {KQ : World → Value → Prop} {M : Nat} {K5 : World → Value → Prop} (j : Nat) (hj : j < 18) (h : [14, 16].contains j = true ∨ (factsOf (fl_brs vl vs vw vq va vk vp vi BY BQ KQ M K5) j).dones.contains 16 = true) : j = 14 ∨ j = 16 := by
  rcases j with _ | _ | _ | _ | _ | _ | _ | _ | _ | _ | _ | _ | _ | _ | _ | _ | _ | _ | j
  all_goals first | omega | (rcases h with h | h <;> exact absurd (show false = true from h) (by decide))

theorem askb_brs {vl vs vw vq va vk vp vi : Value} {BY BQ : Nat} {KQ : World → Value → Prop} {M : Nat} {K5 : World → Value → Prop} (j : Nat) (hj : j < 18) (h : [15, 17].contains j = true ∨ (factsOf (fl_brs vl vs vw vq va vk vp vi BY BQ KQ M K5) j).dones.contains 17 = true) : j = 15 ∨ j = 17 := by
  rcases j with _ | _ | _ | _ | _ | _ | _ | _ | _ | _ | _ | _ | _ | _ | _ | _ | _ | _ | j
  all_goals first | omega | (rcases h with h | h <;> exact absurd (show false = true from h) (by decide))

set_option maxRecDepth 100000 in
set_option maxHeartbeats 8000000 in
theorem walkC_FnAtmBurst (hI : AtmDoC) (a : Option Addr) (len cap : Nat) (w : World) (hc : len ≤ cap) (hm : cap ≤ 9223372036854775807) (h : Bytes w w.heap.size a len) :
    Calls Try.prog 4 #[.slice a len cap] w fun e w' => e = .returned (.bool true) ∧ Below w.heap.size w w' := by
  by_cases hl : 1048576 < len
  · have hI1 : (1048576 : Int) < (len : Int) := by omega
    clear h hI
    go_enter Try.func4, Try.ntmps4
    go_wp2
    go_ret
    exact ⟨rfl, Below.refl _ _⟩
  have hI1 : ¬ (1048576 : Int) < (len : Int) := by omega
  have HB := Hid.intro h
  have HC := Hid.intro hI
  clear h hI
  go_enter Try.func4, Try.ntmps4
  go_wp2_with fail
  refine (drawAtmDo_any a len cap w hc hm HB.out).mono ?_
  rintro e w1 ⟨b, c, ms, s, bw, ow, cw, bh, oh, ch, who, r, pd, cd, pl, cl, rfl, hM, xc, xm, x1, x7, hS, y1, y2, hR, z1, z2, hb1⟩
  obtain ⟨zs, zr, hZ⟩ : ∃ zs zr, atmZ ms s who r = (zs, zr) := ⟨_, _, rfl⟩
  have HZ := Hid.intro hZ
  have HM := Hid.intro hM
  have HS := Hid.intro hS
  have HR := Hid.intro hR
  clear hM hS hR hZ
  unfold stV reqV
  go_wp2_with fail
  refine (atmF_at HC.out HZ.out (HM.out.below (below_two _ _ _)) xc xm (HS.out.below (below_two _ _ _)) (HR.out.below (below_two _ _ _))).mono ?_
  rintro e w2 ⟨qw, dw, qh, dh, qx, dx, rfl, hO, hb2⟩
  have hs1 := hb1.size
  have hs2 := hb2.size
  simp only [World.size_alloc] at hs2
  have bS : w2.heap[w1.heap.size]? = some (.cells #[.slice (some ⟨bw, ow, none⟩) s.words.length cw, .slice (some ⟨bh, oh, none⟩) s.holds.length ch] 28 (0, 0)) := (hb2.block _ (by simp; omega)).trans (two_at0 _ _ _)
  have bQ : w2.heap[w1.heap.size + 1]? = some (.cells #[.int .i64 r.id, .int .i64 r.kind, .int .i64 r.addr, .int .i64 r.many, .bool r.wrap, .slice pd r.data.length cd, .slice pl r.lanes.length cl] 40 (0, 0)) := (hb2.block _ (by simp)).trans (two_at1 _ _ _)
  have HM2 := Hid.intro ((HM.out.below (below_two _ _ _)).below hb2)
  have HS2 := Hid.intro ((HS.out.below (below_two _ _ _)).below hb2)
  have HR2 := Hid.intro ((HR.out.below (below_two _ _ _)).below hb2)
  have HO2 := Hid.intro hO
  have hB2 := (hb1.trans ((below_two w1 _ _).mono hb1.size)).trans (hb2.mono (by simp; omega))
  obtain ⟨S, eS⟩ : ∃ S, S = w1.heap.size := ⟨_, rfl⟩
  obtain ⟨Q, eQ⟩ : ∃ Q, Q = w1.heap.size + 1 := ⟨_, rfl⟩
  rw [← eQ] at bQ ⊢
  rw [← eS] at bS ⊢
  have hSl : S < w2.heap.size := by omega
  have hQl : Q < w2.heap.size := by omega
  have hnSQ : S ≠ Q := by omega
  clear hb1 hb2 hO HM HS HR eS eQ hs2 hs1
  obtain ⟨s0, s1⟩ := cells2 bS
  obtain ⟨r0, r1, r2, r3, r4, r5, r6⟩ := cells7 bQ
  have BS := Hid.intro bS
  have BQ := Hid.intro bQ
  clear bS bQ
  unfold stV rspV
  go_wp2_with fail
  refine (atmF_at spec_AtmDo HZ.out (HM2.out.below (below_two _ _ _)) xc xm (HS2.out.below (below_two _ _ _)) (HR2.out.below (below_two _ _ _))).mono ?_
  rintro e w3 ⟨kw, mw, kh, mh, kx, mx, rfl, hO, hb3⟩
  have hs3 := hb3.size
  simp only [World.size_alloc] at hs3
  have bX : w3.heap[w2.heap.size]? = some (.cells #[.slice qw zs.words.length dw, .slice qh zs.holds.length dh] 28 (0, 0)) := (hb3.block _ (by simp; omega)).trans (two_at0 _ _ _)
  have bO : w3.heap[w2.heap.size + 1]? = some (.cells #[.int .i64 zr.id, .int .i64 zr.code, .slice qx zr.data.length dx] 44 (0, 0)) := (hb3.block _ (by simp)).trans (two_at1 _ _ _)
  have hg3 : Below w2.heap.size w2 w3 := (below_two w2 _ _).trans (hb3.mono (by simp; omega))
  have bS := (hg3.block S hSl).trans BS.out
  have bQ := (hg3.block Q hQl).trans BQ.out
  have HM3 := Hid.intro (HM2.out.below hg3)
  have HS3 := Hid.intro (HS2.out.below hg3)
  have HR3 := Hid.intro (HR2.out.below hg3)
  have HO3 := Hid.intro (HO2.out.below hg3)
  have HK3 := Hid.intro hO
  have hB3 := hB2.trans (hg3.mono hB2.size)
  obtain ⟨X, eX⟩ : ∃ X, X = w2.heap.size := ⟨_, rfl⟩
  obtain ⟨O, eO⟩ : ∃ O, O = w2.heap.size + 1 := ⟨_, rfl⟩
  rw [← eO] at bO ⊢
  rw [← eX] at bX ⊢
  have hXl : X < w3.heap.size := by omega
  have hOl : O < w3.heap.size := by omega
  have hS3 : S < w3.heap.size := by omega
  have hQ3 : Q < w3.heap.size := by omega
  have hnSX : S ≠ X := by omega
  have hnQX : Q ≠ X := by omega
  have hnSO : S ≠ O := by omega
  have hnQO : Q ≠ O := by omega
  have hnXO : X ≠ O := by omega
  clear hb3 hg3 hO HM2 HS2 HR2 HO2 BS BQ s0 s1 r0 r1 r2 r3 r4 r5 r6 hB2 hSl hQl eX eO hs3
  obtain ⟨o0, o1, o2⟩ := cells3 bO
  have BS := Hid.intro bS
  have BQ := Hid.intro bQ
  have BX := Hid.intro bX
  have BO := Hid.intro bO
  clear bS bQ bX bO
  unfold stV rspV
  go_wp2_with fail
  refine (crRsp_same zr qx kx dx mx _ (HO3.out.rsp.below (below_two _ _ _)) (HK3.out.rsp.below (below_two _ _ _))).mono ?_
  rintro e w4 ⟨rfl, hb4⟩
  have hg4 : Below w3.heap.size w3 w4 := (below_two w3 _ _).trans (hb4.mono (by simp; omega))
  have hs4 := hg4.size
  have bS := (hg4.block S hS3).trans BS.out
  have bQ := (hg4.block Q hQ3).trans BQ.out
  have bX := (hg4.block X hXl).trans BX.out
  have bO := (hg4.block O hOl).trans BO.out
  have HM4 := Hid.intro (HM3.out.below hg4)
  have HS4 := Hid.intro (HS3.out.below hg4)
  have HR4 := Hid.intro (HR3.out.below hg4)
  have HO4 := Hid.intro (HO3.out.below hg4)
  have hB4 := hB3.trans (hg4.mono hB3.size)
  have hS4 : S < w4.heap.size := by omega
  have hQ4 : Q < w4.heap.size := by omega
  have hX4 : X < w4.heap.size := by omega
  have hO4 : O < w4.heap.size := by omega
  clear hb4 hg4 HM3 HS3 HR3 HO3 HK3 BS BQ BX BO o0 o1 o2 hB3 hXl hOl hS3 hQ3 hs4
  obtain ⟨s0, s1⟩ := cells2 bS
  obtain ⟨r0, r1, r2, r3, r4, r5, r6⟩ := cells7 bQ
  obtain ⟨x0, x1, x2⟩ := (⟨(cells2 bX).1, (cells2 bX).2, trivial⟩ : _ ∧ _ ∧ True)
  obtain ⟨o0, o1, o2⟩ := cells3 bO
  have BS := Hid.intro bS
  have BQ := Hid.intro bQ
  have BX := Hid.intro bX
  have BO := Hid.intro bO
  clear bS bQ bX bO x2
  by_cases c1 : zr.code = 1
  rotate_left
  · have hcb : (zr.code == 1) = false := by simpa using c1
    go_wp2_with (go_at_call 11; refine (crOk_any _).mono ?_; rintro e w' ⟨rfl, rfl⟩)
    go_ret
    exact ⟨rfl, hB4⟩
  by_cases k1 : r.kind = 1
  · skip
    have hok := (atmZ_code HZ.out (by rw [c1]; decide)).1
    have hdo := (atmZ_code HZ.out (by rw [c1]; decide)).2
    have HOK := Hid.intro hok
    have HC1 : Hid ((atmDo ms s who r).2.code = 1) := Hid.intro (by rw [hdo]; exact c1)
    have HDO := Hid.intro hdo
    have HK : Hid (r.kind = 1 ∨ r.kind = 2) := Hid.intro (by omega)
    have HKK := Hid.intro k1
    have HCC := Hid.intro c1
    rw [c1] at o1
    rw [k1] at r1
    clear hok hdo c1 k1
    go_wp2_with fail
    refine (impl_AdrBurst r.addr r.many r.wrap w4).mono ?_
    rintro e w5 ⟨pa, ca, rfl, hA, hpa, ca1, ca2, hb5, _⟩
    obtain ⟨A, eA⟩ : ∃ A, A = burst r.addr r.many r.wrap := ⟨_, rfl⟩
    rw [← eA] at hA ca1 ⊢
    have hs5 := hb5.size
    have hAle : A.length ≤ 4 := by rw [eA]; exact burst_le _ _ _
    have EA := Hid.intro eA
    have HA5 := Hid.intro hA
    have bS := Hid.intro ((hb5.block S hS4).trans BS.out)
    have bQ := Hid.intro ((hb5.block Q hQ4).trans BQ.out)
    have bX := Hid.intro ((hb5.block X hX4).trans BX.out)
    have bO := Hid.intro ((hb5.block O hO4).trans BO.out)
    have HM5 := Hid.intro (HM4.out.below hb5)
    have HS5 := Hid.intro (HS4.out.below hb5)
    have HR5 := Hid.intro (HR4.out.below hb5)
    have HO5 := Hid.intro (HO4.out.below hb5)
    have hB5 := hB4.trans (hb5.mono hB4.size)
    have hS5 : S < w5.heap.size := by omega
    have hQ5 : Q < w5.heap.size := by omega
    have hX5 : X < w5.heap.size := by omega
    have hO5 : O < w5.heap.size := by omega
    clear eA hA hb5 HM4 HS4 HR4 HO4 BS BQ BX BO hB4 hs5 hS4 hQ4 hX4 hO4 s0 s1 r0 r1 r2 r3 r4 r5 r6 x0 x1 o0 o1 o2 hpa
    have s0 : w5.cell? ⟨S, 0, none⟩ = some (.slice (some ⟨bw, ow, none⟩) s.words.length cw) := heap_cell bS.out 0
    have s1 : w5.cell? ⟨S, 1, none⟩ = some (.slice (some ⟨bh, oh, none⟩) s.holds.length ch) := heap_cell bS.out 1
    have INV0 : Hid (∀ W, W = (w5.alloc (.cells #[.slice (some ⟨bw, ow, none⟩) s.words.length cw, .slice (some ⟨bh, oh, none⟩) s.holds.length ch] 28)).alloc (.cells #[] 3) → BInv w5 w5.heap.size w5.heap.size s (some ⟨bw, ow, none⟩) cw (some ⟨bh, oh, none⟩) ch [] (w5.heap.size + 1) 0 W) := by
      refine Hid.intro (fun W hW => ?_)
      subst hW
      have hg := below_two w5 (.cells #[.slice (some ⟨bw, ow, none⟩) s.words.length cw, .slice (some ⟨bh, oh, none⟩) s.holds.length ch] 28) (.cells #[] 3)
      have lt : ∀ {p : Nat} {o : Nat} {l : List Int}, IntsAt w5 (some ⟨p, o, none⟩) l → l ≠ [] → ∀ b off, (some ⟨p, o, none⟩ : Option Addr) = some ⟨b, off, none⟩ → b ≠ w5.heap.size ∧ b ≠ w5.heap.size + 1 := fun hi h0 b off e => by
        rcases hi with hi | ⟨b', off', e', hlt, _⟩
        · exact absurd hi h0
        · cases e; cases e'; omega
      exact ⟨hg, two_at0 _ _ _, HS5.out.below hg, lt HS5.out.words, lt HS5.out.holds, ⟨#[], two_at1 _ _ _, rfl, Nat.le_refl _, rfl, rfl⟩, by unfold maxLen; omega, by omega, Nat.le_refl _, by omega, Nat.le_refl _⟩
    go_wp2_with fail
    generalize hWL : (w5.alloc (.cells #[.slice (some ⟨bw, ow, none⟩) s.words.length cw, .slice (some ⟨bh, oh, none⟩) s.holds.length ch] 28)).alloc (.cells #[] 3) = wL
    have HV0 := Hid.intro (INV0.out wL hWL.symm)
    clear INV0 hWL s0 s1
    obtain ⟨Y, hY⟩ : ∃ Y, Y = w5.heap.size := ⟨_, rfl⟩
    obtain ⟨g0, hg0⟩ : ∃ g, g = w5.heap.size + 1 := ⟨_, rfl⟩
    rw [← hg0] at HV0 ⊢
    rw [← hY] at HV0 ⊢
    have hQY : Q < Y := by omega
    have hXY : X < Y := by omega
    have hOY : O < Y := by omega
    have hY5 : Y ≤ w5.heap.size := by omega
    have HM5' : Hid (∀ W, Below Y w5 W → RowOf W (some ⟨b, 0, none⟩) ms ∧ ReqAt W r pd cd pl cl ∧ StAt W zs qw dw qh dh ∧ RspAt W zr qx dx ∧ IntsAt W pa A ∧ Below w.heap.size w W) := by
      rw [hY]
      exact Hid.intro (fun W hW => ⟨HM5.out.below hW, HR5.out.below hW, HO5.out.st.below hW, HO5.out.rsp.below hW, HA5.out.below hW, hB5.trans (hW.mono hB5.size)⟩)
    have HXC := Hid.intro (And.intro xc xm)
    clear HM5 HR5 HO5 HA5 HS5 hg0 hY hS5 hQ5 hX5 hO5 xc xm bS hB5
    go_loopw [14, 13] (fun i t wr => ∃ (k : Nat) (y : Stt) (pw ph : Option Addr) (cw ch : Nat) (ws : List Int) (g cp : Nat), k ≤ A.length ∧ i = .int .i64 k ∧ t = .slice (some ⟨g, 0, none⟩) ws.length cp ∧ Hid (BInv w5 Y Y y pw cw ph ch ws g cp wr) ∧ Hid (y = bSt s r A k ∧ stOkB y = true ∧ ws = bWs s r A k) ∧ ws.length ≤ k) (fun i _ _ => A.length - (intOf i).toNat)
    case atStart => exact ⟨0, s, _, _, _, _, [], g0, 0, Nat.zero_le _, rfl, rfl, HV0, Hid.intro ⟨(burst_zero trivial).1.symm, (atmOk_and HOK.out).2.1, (burst_zero trivial).2.symm⟩, Nat.le_refl _⟩
    case round =>
      obtain ⟨k, y, pw, ph, cw, ch, ws, g, cp, hk, rfl, rfl, HV, HE, hwl⟩ := hrel
      clear HV0
      have hbel := HV.out.bel
      have hbs := hbel.size
      have HQQ := Hid.intro ((hbel.block Q hQY).trans bQ.out)
      have HXX := Hid.intro ((hbel.block X hXY).trans bX.out)
      have HOO := Hid.intro ((hbel.block O hOY).trans bO.out)
      have HAL := Hid.intro (HM5'.out wr hbel)
      have HYY := Hid.intro HV.out.bY
      have hlY := heap_lt HYY.out
      have hlQ := heap_lt HQQ.out
      have hlX := heap_lt HXX.out
      have hlO := heap_lt HOO.out
      have HST := Hid.intro HV.out.st
      by_cases hlt : k < A.length
      · have hk0 : (0 : Int) ≤ (k : Int) := by omega
        have hk1 : (k : Int) < (A.length : Int) := by omega
        have hAI := HAL.out.2.2.2.2.1
        rcases hAI with hx | ⟨ba, oa, rfl, hlA, hcs⟩
        · rw [hx] at hlt; simp at hlt
        obtain ⟨x, hx⟩ : ∃ x, x = A[k] := ⟨_, rfl⟩
        have HX := Hid.intro hx
        have HAC : Hid (wr.cell? ⟨ba, oa + k, none⟩ = some (.int .i64 x)) := Hid.intro (by rw [hx]; exact hcs k hlt)
        obtain ⟨hok1, dk, hdo1, hws1, hdl⟩ := burst_step EA.out HOK.out HC1.out HK.out hlt (by rw [← HE.out.1]; exact HE.out.2.1)
        rw [← hx, ← HE.out.1] at hok1 hdo1
        have HD1 := Hid.intro (And.intro hok1 (And.intro hdo1 hws1))
        have hst1 : stOkB (bSt s r A (k + 1)) = true := by have := atmDo_ok hok1; rw [hdo1] at this; exact this
        have HS1 := Hid.intro hst1
        obtain ⟨y', hy'⟩ : ∃ y', y' = bSt s r A (k + 1) := ⟨_, rfl⟩
        have HY' := Hid.intro hy'
        obtain ⟨K5, hK5⟩ : ∃ K5 : World → Value → Prop, K5 = kOut wr.heap.size y' ⟨r.id, 1, dk⟩ := ⟨_, rfl⟩
        obtain ⟨KQ, hKQ⟩ : ∃ KQ : World → Value → Prop, KQ = kOne wr.heap.size (oneR r x k) := ⟨_, rfl⟩
        have h5g : ∀ w w' v, Gr w w' → K5 w v → K5 w' v := by rw [hK5]; exact kOut_gr
        have h5ta : ∀ w w' v, KT 28 w w' → K5 w v → K5 w' v := by rw [hK5]; exact kOut_kt (by decide)
        have h5tb : ∀ w w' v, KT 44 w w' → K5 w v → K5 w' v := by rw [hK5]; exact kOut_kt (by decide)
        have h5t : ∀ W v, K5 W v → ∃ va vb, v = .tuple #[va, vb] := by rw [hK5]; exact kOut_t
        have h5s : ∀ W v, K5 W v → ∃ p0 n0 k0 p1 n1 k1 v2, v = .tuple #[.agg #[.slice p0 n0 k0, .slice p1 n1 k1], v2] := by rw [hK5]; exact kOut_s
        have h5x : ∀ W v, K5 W v → ∃ va i0 i1 p2 n2 k2, v = .tuple #[va, .agg #[.int .i64 i0, .int .i64 i1, .slice p2 n2 k2]] := by rw [hK5]; exact kOut_x
        have hQg : ∀ w w' v, Gr w w' → KQ w v → KQ w' v := by rw [hKQ]; exact kOne_gr
        have hQt : ∀ (t : Nat) w w' v, t ≠ 3 → KT t w w' → KQ w v → KQ w' v := by rw [hKQ]; exact kOne_kt
        have HCO : Hid (∀ W, Below wr.heap.size wr W → Calls Try.prog 17 #[.agg #[.int .i64 r.id, .int .i64 r.kind, .int .i64 r.addr, .int .i64 r.many, .bool r.wrap, .slice pd r.data.length cd, .slice pl r.lanes.length cl], .int .i64 x, .int .i64 (k : Int)] W fun e w' => (∃ v, e = .returned v ∧ KQ w' v) ∧ Below W.heap.size W w') := by
          refine Hid.intro (fun W hW => ?_)
          have hwd := fun h2 : r.kind = 2 => reqOk_words (atmOk_and HOK.out).2.2.2 (.inl h2)
          have hln := burst_ln (req_parts (atmOk_and HOK.out).2.2.2).2.1
          rw [← EA.out] at hln
          have := crOne_any r pd pl cd cl x k W (HAL.out.2.1.below hW) (fun h2 => by obtain ⟨u1, u2, _, _⟩ := hwd h2; omega)
          unfold reqV at this
          refine this.mono ?_
          rintro e w' ⟨⟨v, rfl, qd, dd, ql, ll, ev, o1, o2, u⟩, hb⟩
          exact ⟨⟨v, rfl, by rw [hKQ]; exact ⟨qd, dd, ql, ll, ev, o1.mono hW.size, o2.mono hW.size, u⟩⟩, hb⟩
        have HDO1 : Hid (∀ v W, Below wr.heap.size wr W → KQ W v → Calls Try.prog 13 #[.slice (some ⟨b, 0, none⟩) ms.length c, .agg #[.slice pw y.words.length cw, .slice ph y.holds.length ch], .int .i64 who, v] W fun e w' => (∃ v, e = .returned v ∧ K5 w' v) ∧ Below W.heap.size W w') := by
          refine Hid.intro (fun v W hW hq => ?_)
          rw [hKQ] at hq
          obtain ⟨qd, dd, ql, ll, rfl, hqa⟩ := kOne_at hq
          have hz1 : atmZ ms y who (oneR r x k) = (y', ⟨r.id, 1, dk⟩) := by rw [atmZ_may HD1.out.1, HD1.out.2.1, HY'.out]
          have := atmF_at HC.out hz1 (HAL.out.1.below hW) HXC.out.1 HXC.out.2 (HST.out.below hW) hqa
          unfold stV at this
          refine this.mono ?_
          rintro e w' ⟨pw', cw', ph', ch', px', cx', rfl, hO, hb⟩
          exact ⟨⟨_, rfl, by rw [hK5]; exact ⟨pw', cw', ph', ch', px', cx', rfl, ⟨hO.words.mono hW.size, hO.holds.mono hW.size, hO.data.mono hW.size, hO.cw1, hO.cw2, hO.ch1, hO.ch2, hO.cx1, hO.cx2, hO.wh, hO.wx, hO.hx⟩⟩⟩, hb⟩
        have HK5 := Hid.intro hK5
        clear hcs hx hok1 hdo1 hws1 hst1 hy' hK5 hKQ hbel
        go_wp2_with fail
        refine wp_region_fl (by kernel_rfl) (fl_brs (.slice (some ⟨b, 0, none⟩) ms.length c) (.agg #[.slice pw y.words.length cw, .slice ph y.holds.length ch]) (.int .i64 who) (.agg #[.int .i64 r.id, .int .i64 r.kind, .int .i64 r.addr, .int .i64 r.many, .bool r.wrap, .slice pd r.data.length cd, .slice pl r.lanes.length cl]) (.slice (some ⟨ba, oa, none⟩) A.length ca) (.int .i64 (k : Int)) (.pointer (some ⟨ba, oa + k, none⟩)) (.int .i64 x) Y Q KQ wr.heap.size K5) (fun _ => Below wr.heap.size wr) [77, 78, 79, 80, 81, 82, 83, 84, 85, 86, 87, 76, 88, 89, 15, 16] (by kernel_rfl) (by kernel_rfl) (by kernel_rfl) ?c0 ?looks ?done
        case looks =>
          intro hcl i o ho
          rcases i with _ | _ | _ | _ | _ | _ | _ | _ | _ | _ | _ | _ | _ | _ | _ | _ | _ | _ | i
          · simp at ho; subst ho
            refine fo_det (st_brs (.slice (some ⟨b, 0, none⟩) ms.length c) (.agg #[.slice pw y.words.length cw, .slice ph y.holds.length ch]) (.int .i64 who) (.agg #[.int .i64 r.id, .int .i64 r.kind, .int .i64 r.addr, .int .i64 r.many, .bool r.wrap, .slice pd r.data.length cd, .slice pl r.lanes.length cl]) (.slice (some ⟨ba, oa, none⟩) A.length ca) (.int .i64 (k : Int)) (.pointer (some ⟨ba, oa + k, none⟩)) (.int .i64 x) Y Q KQ wr.heap.size K5 h5g hQg hQt) hcl rfl rfl rfl rfl (by kernel_rfl) (fun _ _ h => h) (fun done ρ W hat => ?_)
            have e3 : ρ (.tmp 3) = (.slice (some ⟨b, 0, none⟩) ms.length c) := hat.out 3 (by kernel_rfl)
            have hC := hat.cls
            have hc := hat.con
            simp only [execOp, e3]
            go_simp
          · simp at ho; subst ho
            refine fo_det (st_brs (.slice (some ⟨b, 0, none⟩) ms.length c) (.agg #[.slice pw y.words.length cw, .slice ph y.holds.length ch]) (.int .i64 who) (.agg #[.int .i64 r.id, .int .i64 r.kind, .int .i64 r.addr, .int .i64 r.many, .bool r.wrap, .slice pd r.data.length cd, .slice pl r.lanes.length cl]) (.slice (some ⟨ba, oa, none⟩) A.length ca) (.int .i64 (k : Int)) (.pointer (some ⟨ba, oa + k, none⟩)) (.int .i64 x) Y Q KQ wr.heap.size K5 h5g hQg hQt) hcl rfl rfl rfl rfl (by kernel_rfl) (fun _ _ h => h) (fun done ρ W hat => ?_)
            have e12 : ρ (.tmp 12) = .pointer (some ⟨Y, 0, none⟩) := hat.out 12 (by kernel_rfl)
            have hC := hat.cls
            have hbx := (hC.block _ hlY).trans HYY.out
            have c0 := (heap_cell hbx 0).trans rfl
            have c1 := (heap_cell hbx 1).trans rfl
            have hc := hat.con
            simp only [execOp, e12]
            go_simp
          · simp at ho; subst ho
            refine fo_det (st_brs (.slice (some ⟨b, 0, none⟩) ms.length c) (.agg #[.slice pw y.words.length cw, .slice ph y.holds.length ch]) (.int .i64 who) (.agg #[.int .i64 r.id, .int .i64 r.kind, .int .i64 r.addr, .int .i64 r.many, .bool r.wrap, .slice pd r.data.length cd, .slice pl r.lanes.length cl]) (.slice (some ⟨ba, oa, none⟩) A.length ca) (.int .i64 (k : Int)) (.pointer (some ⟨ba, oa + k, none⟩)) (.int .i64 x) Y Q KQ wr.heap.size K5 h5g hQg hQt) hcl rfl rfl rfl rfl (by kernel_rfl) (fun _ _ h => h) (fun done ρ W hat => ?_)
            have e5 : ρ (.tmp 5) = (.int .i64 who) := hat.out 5 (by kernel_rfl)
            have hC := hat.cls
            have hc := hat.con
            simp only [execOp, e5]
            go_simp
          · simp at ho; subst ho
            refine fo_det (st_brs (.slice (some ⟨b, 0, none⟩) ms.length c) (.agg #[.slice pw y.words.length cw, .slice ph y.holds.length ch]) (.int .i64 who) (.agg #[.int .i64 r.id, .int .i64 r.kind, .int .i64 r.addr, .int .i64 r.many, .bool r.wrap, .slice pd r.data.length cd, .slice pl r.lanes.length cl]) (.slice (some ⟨ba, oa, none⟩) A.length ca) (.int .i64 (k : Int)) (.pointer (some ⟨ba, oa + k, none⟩)) (.int .i64 x) Y Q KQ wr.heap.size K5 h5g hQg hQt) hcl rfl rfl rfl rfl (by kernel_rfl) (fun _ _ h => h) (fun done ρ W hat => ?_)
            have e6 : ρ (.tmp 6) = .pointer (some ⟨Q, 0, none⟩) := hat.out 6 (by kernel_rfl)
            have hC := hat.cls
            have hbx := (hC.block _ hlQ).trans HQQ.out
            have c0 := (heap_cell hbx 0).trans rfl
            have c1 := (heap_cell hbx 1).trans rfl
            have c2 := (heap_cell hbx 2).trans rfl
            have c3 := (heap_cell hbx 3).trans rfl
            have c4 := (heap_cell hbx 4).trans rfl
            have c5 := (heap_cell hbx 5).trans rfl
            have c6 := (heap_cell hbx 6).trans rfl
            have hc := hat.con
            simp only [execOp, e6]
            go_simp
          · simp at ho; subst ho
            refine fo_det (st_brs (.slice (some ⟨b, 0, none⟩) ms.length c) (.agg #[.slice pw y.words.length cw, .slice ph y.holds.length ch]) (.int .i64 who) (.agg #[.int .i64 r.id, .int .i64 r.kind, .int .i64 r.addr, .int .i64 r.many, .bool r.wrap, .slice pd r.data.length cd, .slice pl r.lanes.length cl]) (.slice (some ⟨ba, oa, none⟩) A.length ca) (.int .i64 (k : Int)) (.pointer (some ⟨ba, oa + k, none⟩)) (.int .i64 x) Y Q KQ wr.heap.size K5 h5g hQg hQt) hcl rfl rfl rfl rfl (by kernel_rfl) (fun _ _ h => h) (fun done ρ W hat => ?_)
            have e11 : ρ (.tmp 11) = (.slice (some ⟨ba, oa, none⟩) A.length ca) := hat.out 11 (by kernel_rfl)
            have hC := hat.cls
            have hc := hat.con
            simp only [execOp, e11]
            go_simp
          · simp at ho; subst ho
            refine fo_det (st_brs (.slice (some ⟨b, 0, none⟩) ms.length c) (.agg #[.slice pw y.words.length cw, .slice ph y.holds.length ch]) (.int .i64 who) (.agg #[.int .i64 r.id, .int .i64 r.kind, .int .i64 r.addr, .int .i64 r.many, .bool r.wrap, .slice pd r.data.length cd, .slice pl r.lanes.length cl]) (.slice (some ⟨ba, oa, none⟩) A.length ca) (.int .i64 (k : Int)) (.pointer (some ⟨ba, oa + k, none⟩)) (.int .i64 x) Y Q KQ wr.heap.size K5 h5g hQg hQt) hcl rfl rfl rfl rfl (by kernel_rfl) (fun _ _ h => h) (fun done ρ W hat => ?_)
            have e14 : ρ (.tmp 14) = (.int .i64 (k : Int)) := hat.out 14 (by kernel_rfl)
            have hC := hat.cls
            have hc := hat.con
            simp only [execOp, e14]
            go_simp
          · simp at ho; subst ho
            refine fo_det (st_brs (.slice (some ⟨b, 0, none⟩) ms.length c) (.agg #[.slice pw y.words.length cw, .slice ph y.holds.length ch]) (.int .i64 who) (.agg #[.int .i64 r.id, .int .i64 r.kind, .int .i64 r.addr, .int .i64 r.many, .bool r.wrap, .slice pd r.data.length cd, .slice pl r.lanes.length cl]) (.slice (some ⟨ba, oa, none⟩) A.length ca) (.int .i64 (k : Int)) (.pointer (some ⟨ba, oa + k, none⟩)) (.int .i64 x) Y Q KQ wr.heap.size K5 h5g hQg hQt) hcl rfl rfl rfl rfl (by kernel_rfl) (fun _ _ h => h) (fun done ρ W hat => ?_)
            have e81 : ρ (.tmp 81) = (.slice (some ⟨ba, oa, none⟩) A.length ca) := fIs_at (d := 81) (v := (.slice (some ⟨ba, oa, none⟩) A.length ca)) (hat.fact 4 (by kernel_rfl))
            have e82 : ρ (.tmp 82) = (.int .i64 (k : Int)) := fIs_at (d := 82) (v := (.int .i64 (k : Int))) (hat.fact 5 (by kernel_rfl))
            have hC := hat.cls
            have hc := hat.con
            simp only [execOp, e81, e82]
            go_simp
          · simp at ho; subst ho
            refine fo_det (st_brs (.slice (some ⟨b, 0, none⟩) ms.length c) (.agg #[.slice pw y.words.length cw, .slice ph y.holds.length ch]) (.int .i64 who) (.agg #[.int .i64 r.id, .int .i64 r.kind, .int .i64 r.addr, .int .i64 r.many, .bool r.wrap, .slice pd r.data.length cd, .slice pl r.lanes.length cl]) (.slice (some ⟨ba, oa, none⟩) A.length ca) (.int .i64 (k : Int)) (.pointer (some ⟨ba, oa + k, none⟩)) (.int .i64 x) Y Q KQ wr.heap.size K5 h5g hQg hQt) hcl rfl rfl rfl rfl (by kernel_rfl) (fun _ _ h => h) (fun done ρ W hat => ?_)
            have e83 : ρ (.tmp 83) = (.pointer (some ⟨ba, oa + k, none⟩)) := fIs_at (d := 83) (v := (.pointer (some ⟨ba, oa + k, none⟩))) (hat.fact 6 (by kernel_rfl))
            have hC := hat.cls
            have c0 := (hC.cell (p := ⟨ba, _, none⟩) hlA).trans HAC.out
            have hc := hat.con
            simp only [execOp, e83]
            go_simp
          · simp at ho; subst ho
            refine fo_det (st_brs (.slice (some ⟨b, 0, none⟩) ms.length c) (.agg #[.slice pw y.words.length cw, .slice ph y.holds.length ch]) (.int .i64 who) (.agg #[.int .i64 r.id, .int .i64 r.kind, .int .i64 r.addr, .int .i64 r.many, .bool r.wrap, .slice pd r.data.length cd, .slice pl r.lanes.length cl]) (.slice (some ⟨ba, oa, none⟩) A.length ca) (.int .i64 (k : Int)) (.pointer (some ⟨ba, oa + k, none⟩)) (.int .i64 x) Y Q KQ wr.heap.size K5 h5g hQg hQt) hcl rfl rfl rfl rfl (by kernel_rfl) (fun _ _ h => h) (fun done ρ W hat => ?_)
            have e14 : ρ (.tmp 14) = (.int .i64 (k : Int)) := hat.out 14 (by kernel_rfl)
            have hC := hat.cls
            have hc := hat.con
            simp only [execOp, e14]
            go_simp
          · simp at ho; subst ho
            refine fo_grow (st_brs (.slice (some ⟨b, 0, none⟩) ms.length c) (.agg #[.slice pw y.words.length cw, .slice ph y.holds.length ch]) (.int .i64 who) (.agg #[.int .i64 r.id, .int .i64 r.kind, .int .i64 r.addr, .int .i64 r.many, .bool r.wrap, .slice pd r.data.length cd, .slice pl r.lanes.length cl]) (.slice (some ⟨ba, oa, none⟩) A.length ca) (.int .i64 (k : Int)) (.pointer (some ⟨ba, oa + k, none⟩)) (.int .i64 x) Y Q KQ wr.heap.size K5 h5g hQg hQt) hcl rfl rfl (fun done ρ W hat => ?_)
            have e80 : ρ (.tmp 80) = .agg #[.int .i64 r.id, .int .i64 r.kind, .int .i64 r.addr, .int .i64 r.many, .bool r.wrap, .slice pd r.data.length cd, .slice pl r.lanes.length cl] := fIs_at (d := 80) (v := .agg #[.int .i64 r.id, .int .i64 r.kind, .int .i64 r.addr, .int .i64 r.many, .bool r.wrap, .slice pd r.data.length cd, .slice pl r.lanes.length cl]) (hat.fact 3 (by kernel_rfl))
            have e84 : ρ (.tmp 84) = .int .i64 x := fIs_at (d := 84) (v := .int .i64 x) (hat.fact 7 (by kernel_rfl))
            have e85 : ρ (.tmp 85) = .int .i64 (k : Int) := fIs_at (d := 85) (v := .int .i64 (k : Int)) (hat.fact 8 (by kernel_rfl))
            have hC := hat.cls
            have hf := hat.fn
            refine up_call 17 #[.agg #[.int .i64 r.id, .int .i64 r.kind, .int .i64 r.addr, .int .i64 r.many, .bool r.wrap, .slice pd r.data.length cd, .slice pl r.lanes.length cl], .int .i64 x, .int .i64 (k : Int)] (by simp only [execOp]; go_simp) ?_
            refine (HCO.out W hC).mono ?_
            rintro e W1 ⟨⟨v, rfl, hKv⟩, hb⟩
            exact ⟨v, rfl, hC.trans (hb.mono hC.size), hb, fK_mk (by rw [updV_same]; exact hKv), free_spec (by kernel_rfl) hat.lt⟩
          · simp at ho; subst ho
            refine fo_grow (st_brs (.slice (some ⟨b, 0, none⟩) ms.length c) (.agg #[.slice pw y.words.length cw, .slice ph y.holds.length ch]) (.int .i64 who) (.agg #[.int .i64 r.id, .int .i64 r.kind, .int .i64 r.addr, .int .i64 r.many, .bool r.wrap, .slice pd r.data.length cd, .slice pl r.lanes.length cl]) (.slice (some ⟨ba, oa, none⟩) A.length ca) (.int .i64 (k : Int)) (.pointer (some ⟨ba, oa + k, none⟩)) (.int .i64 x) Y Q KQ wr.heap.size K5 h5g hQg hQt) hcl rfl rfl (fun done ρ W hat => ?_)
            have e77 : ρ (.tmp 77) = (.slice (some ⟨b, 0, none⟩) ms.length c) := fIs_at (d := 77) (v := (.slice (some ⟨b, 0, none⟩) ms.length c)) (hat.fact 0 (by kernel_rfl))
            have e78 : ρ (.tmp 78) = (.agg #[.slice pw y.words.length cw, .slice ph y.holds.length ch]) := fIs_at (d := 78) (v := (.agg #[.slice pw y.words.length cw, .slice ph y.holds.length ch])) (hat.fact 1 (by kernel_rfl))
            have e79 : ρ (.tmp 79) = (.int .i64 who) := fIs_at (d := 79) (v := (.int .i64 who)) (hat.fact 2 (by kernel_rfl))
            have hC := hat.cls
            have hf := hat.fn
            have hq : KQ W (ρ (.tmp 86)) := fK_at (d := 86) (K := KQ) (hat.fact 9 (by kernel_rfl))
            obtain ⟨v86, e86⟩ : ∃ v, ρ (.tmp 86) = v := ⟨_, rfl⟩
            rw [e86] at hq
            refine up_call 13 #[.slice (some ⟨b, 0, none⟩) ms.length c, .agg #[.slice pw y.words.length cw, .slice ph y.holds.length ch], .int .i64 who, v86] (by simp only [execOp]; go_simp) ?_
            refine (HDO1.out v86 W hC hq).mono ?_
            rintro e W1 ⟨⟨v, rfl, hKv⟩, hb⟩
            exact ⟨v, rfl, hC.trans (hb.mono hC.size), hb, fK_mk (by rw [updV_same]; exact hKv), free_spec (by kernel_rfl) hat.lt⟩
          · simp at ho; subst ho
            refine fo_grow (st_brs (.slice (some ⟨b, 0, none⟩) ms.length c) (.agg #[.slice pw y.words.length cw, .slice ph y.holds.length ch]) (.int .i64 who) (.agg #[.int .i64 r.id, .int .i64 r.kind, .int .i64 r.addr, .int .i64 r.many, .bool r.wrap, .slice pd r.data.length cd, .slice pl r.lanes.length cl]) (.slice (some ⟨ba, oa, none⟩) A.length ca) (.int .i64 (k : Int)) (.pointer (some ⟨ba, oa + k, none⟩)) (.int .i64 x) Y Q KQ wr.heap.size K5 h5g hQg hQt) hcl rfl rfl (fun done ρ W hat => ?_)
            have hC := hat.cls
            have hK : K5 W (ρ (.tmp 87)) := (fK_at (d := 87) (K := K5) (hat.fact 10 (by kernel_rfl)))
            refine up_val (ρ (.tmp 87)) W (by simp only [execOp]; go_simp) ⟨hC, Gr.refl _, fK_mk (by rw [updV_same]; exact hK), free_spec (by kernel_rfl) hat.lt⟩
          · simp at ho; subst ho
            refine fo_grow (st_brs (.slice (some ⟨b, 0, none⟩) ms.length c) (.agg #[.slice pw y.words.length cw, .slice ph y.holds.length ch]) (.int .i64 who) (.agg #[.int .i64 r.id, .int .i64 r.kind, .int .i64 r.addr, .int .i64 r.many, .bool r.wrap, .slice pd r.data.length cd, .slice pl r.lanes.length cl]) (.slice (some ⟨ba, oa, none⟩) A.length ca) (.int .i64 (k : Int)) (.pointer (some ⟨ba, oa + k, none⟩)) (.int .i64 x) Y Q KQ wr.heap.size K5 h5g hQg hQt) hcl rfl rfl (fun done ρ W hat => ?_)
            have hC := hat.cls
            have hK : K5 W (ρ (.tmp 76)) := (fK_at (d := 76) (K := K5) (hat.fact 11 (by kernel_rfl)))
            obtain ⟨va, vb, em⟩ := h5t _ _ hK
            refine up_val va W (by simp only [execOp]; go_simp) ⟨hC, Gr.refl _, ⟨vb, ?_⟩, free_spec (by kernel_rfl) hat.lt⟩
            exact em
          · simp at ho; subst ho
            refine fo_grow (st_brs (.slice (some ⟨b, 0, none⟩) ms.length c) (.agg #[.slice pw y.words.length cw, .slice ph y.holds.length ch]) (.int .i64 who) (.agg #[.int .i64 r.id, .int .i64 r.kind, .int .i64 r.addr, .int .i64 r.many, .bool r.wrap, .slice pd r.data.length cd, .slice pl r.lanes.length cl]) (.slice (some ⟨ba, oa, none⟩) A.length ca) (.int .i64 (k : Int)) (.pointer (some ⟨ba, oa + k, none⟩)) (.int .i64 x) Y Q KQ wr.heap.size K5 h5g hQg hQt) hcl rfl rfl (fun done ρ W hat => ?_)
            have hC := hat.cls
            have hK : K5 W (ρ (.tmp 76)) := (fK_at (d := 76) (K := K5) (hat.fact 11 (by kernel_rfl)))
            obtain ⟨va, vb, em⟩ := h5t _ _ hK
            refine up_val vb W (by simp only [execOp]; go_simp) ⟨hC, Gr.refl _, ⟨va, ?_⟩, free_spec (by kernel_rfl) hat.lt⟩
            exact em
          · simp at ho; subst ho
            refine fo_grow (st_brs (.slice (some ⟨b, 0, none⟩) ms.length c) (.agg #[.slice pw y.words.length cw, .slice ph y.holds.length ch]) (.int .i64 who) (.agg #[.int .i64 r.id, .int .i64 r.kind, .int .i64 r.addr, .int .i64 r.many, .bool r.wrap, .slice pd r.data.length cd, .slice pl r.lanes.length cl]) (.slice (some ⟨ba, oa, none⟩) A.length ca) (.int .i64 (k : Int)) (.pointer (some ⟨ba, oa + k, none⟩)) (.int .i64 x) Y Q KQ wr.heap.size K5 h5g hQg hQt) hcl rfl rfl (fun done ρ W hat => ?_)
            have hC := hat.cls
            refine up_val (.pointer (some ⟨W.heap.size, 0, none⟩)) (W.alloc (.cells #[.slice none 0 0, .slice none 0 0] 28)) (by simp only [execOp]; go_simp) ⟨hC.trans ((below_nw _ _).mono hC.size), below_nw _ _, ⟨W.heap.size, _, _, ?_, hC.size, nw_at _ rfl⟩, free_spec (by kernel_rfl) hat.lt⟩
            exact rfl
          · simp at ho; subst ho
            refine fo_grow (st_brs (.slice (some ⟨b, 0, none⟩) ms.length c) (.agg #[.slice pw y.words.length cw, .slice ph y.holds.length ch]) (.int .i64 who) (.agg #[.int .i64 r.id, .int .i64 r.kind, .int .i64 r.addr, .int .i64 r.many, .bool r.wrap, .slice pd r.data.length cd, .slice pl r.lanes.length cl]) (.slice (some ⟨ba, oa, none⟩) A.length ca) (.int .i64 (k : Int)) (.pointer (some ⟨ba, oa + k, none⟩)) (.int .i64 x) Y Q KQ wr.heap.size K5 h5g hQg hQt) hcl rfl rfl (fun done ρ W hat => ?_)
            have hC := hat.cls
            refine up_val (.pointer (some ⟨W.heap.size, 0, none⟩)) (W.alloc (.cells #[.int .i64 0, .int .i64 0, .slice none 0 0] 44)) (by simp only [execOp]; go_simp) ⟨hC.trans ((below_nw _ _).mono hC.size), below_nw _ _, ⟨W.heap.size, _, _, _, ?_, hC.size, nw_at _ rfl⟩, free_spec (by kernel_rfl) hat.lt⟩
            exact rfl
          · simp at ho; subst ho
            refine fo_rel (S := KT 28) (E := [14, 16]) (kta_brs (.slice (some ⟨b, 0, none⟩) ms.length c) (.agg #[.slice pw y.words.length cw, .slice ph y.holds.length ch]) (.int .i64 who) (.agg #[.int .i64 r.id, .int .i64 r.kind, .int .i64 r.addr, .int .i64 r.many, .bool r.wrap, .slice pd r.data.length cd, .slice pl r.lanes.length cl]) (.slice (some ⟨ba, oa, none⟩) A.length ca) (.int .i64 (k : Int)) (.pointer (some ⟨ba, oa + k, none⟩)) (.int .i64 x) Y Q KQ wr.heap.size K5 h5ta hQg hQt) hcl rfl rfl (fun done ρ W hat => ?_)
            have hC := hat.cls
            have hK : K5 W (ρ (.tmp 76)) := (fK_at (d := 76) (K := K5) (hat.fact 11 (by kernel_rfl)))
            obtain ⟨bb, ex⟩ := hat.fact 12 (by kernel_rfl)
            obtain ⟨b, o0, o1, eb, hMb, hbx⟩ := hat.fact 14 (by kernel_rfl)
            have ex : ρ (.tmp 76) = .tuple #[ρ (.tmp 88), bb] := ex
            have eb : ρ (.tmp 15) = .pointer (some ⟨b, 0, none⟩) := eb
            obtain ⟨p0, n0, k0, p1, n1, k1, v2, ev⟩ := h5s _ _ hK
            rw [ev] at ex
            simp only [Value.tuple.injEq, List.toArray_inj, Array.mk.injEq, List.cons.injEq] at ex
            have ex : ρ (.tmp 88) = .agg #[.slice p0 n0 k0, .slice p1 n1 k1] := ex.1.symm
            have hR1 := heap_set hbx 0 (.slice p0 n0 k0)
            refine up_store2 rfl eb ex hbx ⟨(hC.setCell (p := ⟨b, 0, none⟩) hMb _).setCell (p := ⟨b, 1, none⟩) hMb _, (KT.set hbx _).trans (KT.set hR1 _), ⟨b, _, _, eb, hMb, ex, (heap_set hR1 1 _).trans rfl⟩, fun j hj hcj => ?_⟩
            rcases aska_brs j (hat.lt j hj) hcj with rfl | rfl
            · exact ⟨b, _, _, eb, hMb, (heap_set hR1 1 _).trans rfl⟩
            · rw [hat.new] at hj; cases hj
          · simp at ho; subst ho
            refine fo_rel (S := KT 44) (E := [15, 17]) (ktb_brs (.slice (some ⟨b, 0, none⟩) ms.length c) (.agg #[.slice pw y.words.length cw, .slice ph y.holds.length ch]) (.int .i64 who) (.agg #[.int .i64 r.id, .int .i64 r.kind, .int .i64 r.addr, .int .i64 r.many, .bool r.wrap, .slice pd r.data.length cd, .slice pl r.lanes.length cl]) (.slice (some ⟨ba, oa, none⟩) A.length ca) (.int .i64 (k : Int)) (.pointer (some ⟨ba, oa + k, none⟩)) (.int .i64 x) Y Q KQ wr.heap.size K5 h5tb hQg hQt) hcl rfl rfl (fun done ρ W hat => ?_)
            have hC := hat.cls
            have hK : K5 W (ρ (.tmp 76)) := (fK_at (d := 76) (K := K5) (hat.fact 11 (by kernel_rfl)))
            obtain ⟨bb, ex⟩ := hat.fact 13 (by kernel_rfl)
            obtain ⟨b, o0, o1, o2, eb, hMb, hbx⟩ := hat.fact 15 (by kernel_rfl)
            have ex : ρ (.tmp 76) = .tuple #[bb, ρ (.tmp 89)] := ex
            have eb : ρ (.tmp 16) = .pointer (some ⟨b, 0, none⟩) := eb
            obtain ⟨va, i0, i1, p2, n2, k2, ev⟩ := h5x _ _ hK
            rw [ev] at ex
            simp only [Value.tuple.injEq, List.toArray_inj, Array.mk.injEq, List.cons.injEq] at ex
            have ex : ρ (.tmp 89) = .agg #[.int .i64 i0, .int .i64 i1, .slice p2 n2 k2] := ex.2.1.symm
            have hR1 := heap_set hbx 0 (.int .i64 i0)
            have hR2 := heap_set hR1 1 (.int .i64 i1)
            refine up_store3 rfl eb ex hbx ⟨((hC.setCell (p := ⟨b, 0, none⟩) hMb _).setCell (p := ⟨b, 1, none⟩) hMb _).setCell (p := ⟨b, 2, none⟩) hMb _, ((KT.set hbx _).trans (KT.set hR1 _)).trans (KT.set hR2 _), ⟨b, _, _, _, eb, hMb, ex, (heap_set hR2 2 _).trans rfl⟩, fun j hj hcj => ?_⟩
            rcases askb_brs j (hat.lt j hj) hcj with rfl | rfl
            · exact ⟨b, _, _, _, eb, hMb, (heap_set hR2 2 _).trans rfl⟩
            · rw [hat.new] at hj; cases hj
          · simp at ho
        case c0 => exact (Below.refl _ _).drew
        case done =>
          intro f W hC hf hout
          have hK : K5 W (f 76) := fK_at (d := 76) (K := K5) (hf 11 (by decide))
          obtain ⟨vb, ex0⟩ : ∃ b, f 76 = .tuple #[f 88, b] := hf 12 (by decide)
          obtain ⟨va, ex1⟩ : ∃ b, f 76 = .tuple #[b, f 89] := hf 13 (by decide)
          obtain ⟨b0, u0, u1, eb0, hM0, ev0, H0⟩ : ∃ b v0 v1, f 15 = .pointer (some ⟨b, 0, none⟩) ∧ wr.heap.size ≤ b ∧ f 88 = .agg #[v0, v1] ∧ W.heap[b]? = some (.cells #[v0, v1] 28 (0, 0)) := hf 16 (by decide)
          obtain ⟨b1, t0, t1, t2, eb1, hM1, ev1, H1⟩ : ∃ b v0 v1 v2, f 16 = .pointer (some ⟨b, 0, none⟩) ∧ wr.heap.size ≤ b ∧ f 89 = .agg #[v0, v1, v2] ∧ W.heap[b]? = some (.cells #[v0, v1, v2] 44 (0, 0)) := hf 17 (by decide)
          rw [HK5.out] at hK
          obtain ⟨pw', cw', ph', ch', px', cx', eK, hO⟩ := hK
          rw [eK] at ex0 ex1
          simp only [Value.tuple.injEq, List.toArray_inj, Array.mk.injEq, List.cons.injEq] at ex0 ex1
          rw [← ex0.1] at ev0
          rw [← ex1.2.1] at ev1
          cases ev0
          cases ev1
          have hsW := hC.size
          have hl0 := heap_lt H0
          have hl1 := heap_lt H1
          have c00 : W.cell? ⟨b0, 0, none⟩ = some (.slice pw' y'.words.length cw') := heap_cell H0 0
          have c01 : W.cell? ⟨b0, 1, none⟩ = some (.slice ph' y'.holds.length ch') := heap_cell H0 1
          have d01 : W.cell? ⟨b1, 1, none⟩ = some (.int .i64 1) := heap_cell H1 1
          have hYW := (hC.block _ hlY).trans HYY.out
          have x00 := (heap_cell hYW 0).trans rfl
          have x01 := (heap_cell hYW 1).trans rfl
          have xf0 := heap_free hYW 0
          have xf1 := heap_free hYW 1
          have n1X : b1 ≠ Y := by omega
          have HKS := Hid.intro (set2_kept W Y (.slice pw' y'.words.length cw') (.slice ph' y'.holds.length ch'))
          have H1s := (HKS.out.block b1 hl1 n1X).trans H1
          have y02 := (heap_cell H1s 2).trans rfl
          have hgY := HV.out.gY
          have hgl := HV.out.row.lt
          have hrN := Hid.intro (HV.out.row.of ((HKS.out.block g (by omega) hgY).trans (hC.block g hgl)))
          have hcp1 := Hid.intro HV.out.cp1
          have hDN : IntsAt ((W.setCell ⟨Y, 0, none⟩ (.slice pw' y'.words.length cw')).setCell ⟨Y, 1, none⟩ (.slice ph' y'.holds.length ch')) px' dk := by
            rcases hO.data with h0 | ⟨g2, e2, h2, h3⟩
            · exact .inl h0
            · rw [e2]; exact (h3.of (HKS.out.block g2 h3.lt (by omega))).ints
          have HDN := Hid.intro hDN
          have HO := Hid.intro hO
          have HCW := Hid.intro hC
          clear hf hout hC hO ex0 ex1 eK H0 H1 H1s h5g h5ta h5tb h5t h5s h5x hQg hQt HDO1 HCO HK5 hYW hDN hgY
          simp only [fill, eb0, eb1]
          go_simp
          go_wp2_with (at_builtin; refine wpList_app ws dk rfl rfl rfl hrN.out hcp1.out rfl HDN.out (by omega) ?_; intro v6 w6 hp6; obtain ⟨g', cp', ev, hinv⟩ := HV.out.step HCW.out HO.out hp6 (by simp; omega); have HV6 := Hid.intro hinv; subst ev; clear hinv hp6 hrN HDN)
          go_roundw
          case rel => exact ⟨k + 1, y', pw', ph', cw', ch', ws ++ dk, g', cp', by omega, by go_num, by rw [List.length_append], HV6, Hid.intro ⟨HY'.out, by rw [HY'.out]; exact HS1.out, by rw [HD1.out.2.2, HE.out.2.2]⟩, by simp; omega⟩
          case measure => simp [intOf]; omega
      · have hkl : k = A.length := by omega
        subst hkl
        have hkn : ¬ ((A.length : Int) < (A.length : Int)) := by omega
        obtain ⟨u1, u2⟩ := burst_end EA.out HC1.out HK.out
        rw [HDO.out] at u1 u2
        have hyz : y = zs := HE.out.1.trans u1
        have hwz : ws = zr.data := HE.out.2.2.trans u2
        subst hyz
        subst hwz
        have x0 : wr.cell? ⟨X, 0, none⟩ = some (.slice qw y.words.length dw) := heap_cell HXX.out 0
        have x1 : wr.cell? ⟨X, 1, none⟩ = some (.slice qh y.holds.length dh) := heap_cell HXX.out 1
        have y0 : wr.cell? ⟨Y, 0, none⟩ = some (.slice pw y.words.length cw) := heap_cell HYY.out 0
        have y1 : wr.cell? ⟨Y, 1, none⟩ = some (.slice ph y.holds.length ch) := heap_cell HYY.out 1
        have HROW := Hid.intro HV.out.row
        have HCP := Hid.intro (And.intro HV.out.cp1 (show zr.data.length ≤ cp by obtain ⟨_, _, _, h, _⟩ := HV.out.row; exact h))
        clear u1 u2 hbel
        go_wp2_with fail
        refine (crAtm_same y pw qw ph qh cw dw ch dh wr HST.out HAL.out.2.2.1).mono ?_
        rintro e w6 ⟨rfl, hb6⟩
        have HOO6 := (hb6.block O hlO).trans HOO.out
        have o2 : w6.cell? ⟨O, 2, none⟩ = some (.slice qx zr.data.length dx) := heap_cell HOO6 2
        have HR6 := Hid.intro (HAL.out.2.2.2.1.below hb6)
        have HI6 := Hid.intro (HROW.out.of (hb6.block g HROW.out.lt)).ints
        have hBB := HAL.out.2.2.2.2.2.trans (hb6.mono HAL.out.2.2.2.2.2.size)
        clear hb6 x0 x1 y0 y1 HOO6
        go_wp2_with fail
        refine (crInts_same (some ⟨g, 0, none⟩) qx cp dx zr.data w6 HI6.out HR6.out.data HCP.out.2 (by have := HCP.out.1; unfold maxLen at this; omega) HR6.out.c1 HR6.out.c2).mono ?_
        rintro e w7 ⟨rfl, hb7⟩
        have hB7 := hBB.trans (hb7.mono hBB.size)
        clear hb7 hBB
        go_wp2
        go_ret
        exact ⟨rfl, hB7⟩
  by_cases k1 : r.kind = 2
  · skip
    have hok := (atmZ_code HZ.out (by rw [c1]; decide)).1
    have hdo := (atmZ_code HZ.out (by rw [c1]; decide)).2
    have HOK := Hid.intro hok
    have HC1 : Hid ((atmDo ms s who r).2.code = 1) := Hid.intro (by rw [hdo]; exact c1)
    have HDO := Hid.intro hdo
    have HK : Hid (r.kind = 1 ∨ r.kind = 2) := Hid.intro (by omega)
    have HKK := Hid.intro k1
    have HCC := Hid.intro c1
    rw [c1] at o1
    rw [k1] at r1
    clear hok hdo c1 k1
    go_wp2_with fail
    refine (impl_AdrBurst r.addr r.many r.wrap w4).mono ?_
    rintro e w5 ⟨pa, ca, rfl, hA, hpa, ca1, ca2, hb5, _⟩
    obtain ⟨A, eA⟩ : ∃ A, A = burst r.addr r.many r.wrap := ⟨_, rfl⟩
    rw [← eA] at hA ca1 ⊢
    have hs5 := hb5.size
    have hAle : A.length ≤ 4 := by rw [eA]; exact burst_le _ _ _
    have EA := Hid.intro eA
    have HA5 := Hid.intro hA
    have bS := Hid.intro ((hb5.block S hS4).trans BS.out)
    have bQ := Hid.intro ((hb5.block Q hQ4).trans BQ.out)
    have bX := Hid.intro ((hb5.block X hX4).trans BX.out)
    have bO := Hid.intro ((hb5.block O hO4).trans BO.out)
    have HM5 := Hid.intro (HM4.out.below hb5)
    have HS5 := Hid.intro (HS4.out.below hb5)
    have HR5 := Hid.intro (HR4.out.below hb5)
    have HO5 := Hid.intro (HO4.out.below hb5)
    have hB5 := hB4.trans (hb5.mono hB4.size)
    have hS5 : S < w5.heap.size := by omega
    have hQ5 : Q < w5.heap.size := by omega
    have hX5 : X < w5.heap.size := by omega
    have hO5 : O < w5.heap.size := by omega
    clear eA hA hb5 HM4 HS4 HR4 HO4 BS BQ BX BO hB4 hs5 hS4 hQ4 hX4 hO4 s0 s1 r0 r1 r2 r3 r4 r5 r6 x0 x1 o0 o1 o2 hpa
    have s0 : w5.cell? ⟨S, 0, none⟩ = some (.slice (some ⟨bw, ow, none⟩) s.words.length cw) := heap_cell bS.out 0
    have s1 : w5.cell? ⟨S, 1, none⟩ = some (.slice (some ⟨bh, oh, none⟩) s.holds.length ch) := heap_cell bS.out 1
    have INV0 : Hid (∀ W, W = (w5.alloc (.cells #[.slice (some ⟨bw, ow, none⟩) s.words.length cw, .slice (some ⟨bh, oh, none⟩) s.holds.length ch] 28)).alloc (.cells #[] 3) → BInv w5 w5.heap.size w5.heap.size s (some ⟨bw, ow, none⟩) cw (some ⟨bh, oh, none⟩) ch [] (w5.heap.size + 1) 0 W) := by
      refine Hid.intro (fun W hW => ?_)
      subst hW
      have hg := below_two w5 (.cells #[.slice (some ⟨bw, ow, none⟩) s.words.length cw, .slice (some ⟨bh, oh, none⟩) s.holds.length ch] 28) (.cells #[] 3)
      have lt : ∀ {p : Nat} {o : Nat} {l : List Int}, IntsAt w5 (some ⟨p, o, none⟩) l → l ≠ [] → ∀ b off, (some ⟨p, o, none⟩ : Option Addr) = some ⟨b, off, none⟩ → b ≠ w5.heap.size ∧ b ≠ w5.heap.size + 1 := fun hi h0 b off e => by
        rcases hi with hi | ⟨b', off', e', hlt, _⟩
        · exact absurd hi h0
        · cases e; cases e'; omega
      exact ⟨hg, two_at0 _ _ _, HS5.out.below hg, lt HS5.out.words, lt HS5.out.holds, ⟨#[], two_at1 _ _ _, rfl, Nat.le_refl _, rfl, rfl⟩, by unfold maxLen; omega, by omega, Nat.le_refl _, by omega, Nat.le_refl _⟩
    go_wp2_with fail
    generalize hWL : (w5.alloc (.cells #[.slice (some ⟨bw, ow, none⟩) s.words.length cw, .slice (some ⟨bh, oh, none⟩) s.holds.length ch] 28)).alloc (.cells #[] 3) = wL
    have HV0 := Hid.intro (INV0.out wL hWL.symm)
    clear INV0 hWL s0 s1
    obtain ⟨Y, hY⟩ : ∃ Y, Y = w5.heap.size := ⟨_, rfl⟩
    obtain ⟨g0, hg0⟩ : ∃ g, g = w5.heap.size + 1 := ⟨_, rfl⟩
    rw [← hg0] at HV0 ⊢
    rw [← hY] at HV0 ⊢
    have hQY : Q < Y := by omega
    have hXY : X < Y := by omega
    have hOY : O < Y := by omega
    have hY5 : Y ≤ w5.heap.size := by omega
    have HM5' : Hid (∀ W, Below Y w5 W → RowOf W (some ⟨b, 0, none⟩) ms ∧ ReqAt W r pd cd pl cl ∧ StAt W zs qw dw qh dh ∧ RspAt W zr qx dx ∧ IntsAt W pa A ∧ Below w.heap.size w W) := by
      rw [hY]
      exact Hid.intro (fun W hW => ⟨HM5.out.below hW, HR5.out.below hW, HO5.out.st.below hW, HO5.out.rsp.below hW, HA5.out.below hW, hB5.trans (hW.mono hB5.size)⟩)
    have HXC := Hid.intro (And.intro xc xm)
    clear HM5 HR5 HO5 HA5 HS5 hg0 hY hS5 hQ5 hX5 hO5 xc xm bS hB5
    go_loopw [14, 13] (fun i t wr => ∃ (k : Nat) (y : Stt) (pw ph : Option Addr) (cw ch : Nat) (ws : List Int) (g cp : Nat), k ≤ A.length ∧ i = .int .i64 k ∧ t = .slice (some ⟨g, 0, none⟩) ws.length cp ∧ Hid (BInv w5 Y Y y pw cw ph ch ws g cp wr) ∧ Hid (y = bSt s r A k ∧ stOkB y = true ∧ ws = bWs s r A k) ∧ ws.length ≤ k) (fun i _ _ => A.length - (intOf i).toNat)
    case atStart => exact ⟨0, s, _, _, _, _, [], g0, 0, Nat.zero_le _, rfl, rfl, HV0, Hid.intro ⟨(burst_zero trivial).1.symm, (atmOk_and HOK.out).2.1, (burst_zero trivial).2.symm⟩, Nat.le_refl _⟩
    case round =>
      obtain ⟨k, y, pw, ph, cw, ch, ws, g, cp, hk, rfl, rfl, HV, HE, hwl⟩ := hrel
      clear HV0
      have hbel := HV.out.bel
      have hbs := hbel.size
      have HQQ := Hid.intro ((hbel.block Q hQY).trans bQ.out)
      have HXX := Hid.intro ((hbel.block X hXY).trans bX.out)
      have HOO := Hid.intro ((hbel.block O hOY).trans bO.out)
      have HAL := Hid.intro (HM5'.out wr hbel)
      have HYY := Hid.intro HV.out.bY
      have hlY := heap_lt HYY.out
      have hlQ := heap_lt HQQ.out
      have hlX := heap_lt HXX.out
      have hlO := heap_lt HOO.out
      have HST := Hid.intro HV.out.st
      by_cases hlt : k < A.length
      · have hk0 : (0 : Int) ≤ (k : Int) := by omega
        have hk1 : (k : Int) < (A.length : Int) := by omega
        have hAI := HAL.out.2.2.2.2.1
        rcases hAI with hx | ⟨ba, oa, rfl, hlA, hcs⟩
        · rw [hx] at hlt; simp at hlt
        obtain ⟨x, hx⟩ : ∃ x, x = A[k] := ⟨_, rfl⟩
        have HX := Hid.intro hx
        have HAC : Hid (wr.cell? ⟨ba, oa + k, none⟩ = some (.int .i64 x)) := Hid.intro (by rw [hx]; exact hcs k hlt)
        obtain ⟨hok1, dk, hdo1, hws1, hdl⟩ := burst_step EA.out HOK.out HC1.out HK.out hlt (by rw [← HE.out.1]; exact HE.out.2.1)
        rw [← hx, ← HE.out.1] at hok1 hdo1
        have HD1 := Hid.intro (And.intro hok1 (And.intro hdo1 hws1))
        have hst1 : stOkB (bSt s r A (k + 1)) = true := by have := atmDo_ok hok1; rw [hdo1] at this; exact this
        have HS1 := Hid.intro hst1
        obtain ⟨y', hy'⟩ : ∃ y', y' = bSt s r A (k + 1) := ⟨_, rfl⟩
        have HY' := Hid.intro hy'
        obtain ⟨K5, hK5⟩ : ∃ K5 : World → Value → Prop, K5 = kOut wr.heap.size y' ⟨r.id, 1, dk⟩ := ⟨_, rfl⟩
        obtain ⟨KQ, hKQ⟩ : ∃ KQ : World → Value → Prop, KQ = kOne wr.heap.size (oneR r x k) := ⟨_, rfl⟩
        have h5g : ∀ w w' v, Gr w w' → K5 w v → K5 w' v := by rw [hK5]; exact kOut_gr
        have h5ta : ∀ w w' v, KT 28 w w' → K5 w v → K5 w' v := by rw [hK5]; exact kOut_kt (by decide)
        have h5tb : ∀ w w' v, KT 44 w w' → K5 w v → K5 w' v := by rw [hK5]; exact kOut_kt (by decide)
        have h5t : ∀ W v, K5 W v → ∃ va vb, v = .tuple #[va, vb] := by rw [hK5]; exact kOut_t
        have h5s : ∀ W v, K5 W v → ∃ p0 n0 k0 p1 n1 k1 v2, v = .tuple #[.agg #[.slice p0 n0 k0, .slice p1 n1 k1], v2] := by rw [hK5]; exact kOut_s
        have h5x : ∀ W v, K5 W v → ∃ va i0 i1 p2 n2 k2, v = .tuple #[va, .agg #[.int .i64 i0, .int .i64 i1, .slice p2 n2 k2]] := by rw [hK5]; exact kOut_x
        have hQg : ∀ w w' v, Gr w w' → KQ w v → KQ w' v := by rw [hKQ]; exact kOne_gr
        have hQt : ∀ (t : Nat) w w' v, t ≠ 3 → KT t w w' → KQ w v → KQ w' v := by rw [hKQ]; exact kOne_kt
        have HCO : Hid (∀ W, Below wr.heap.size wr W → Calls Try.prog 17 #[.agg #[.int .i64 r.id, .int .i64 r.kind, .int .i64 r.addr, .int .i64 r.many, .bool r.wrap, .slice pd r.data.length cd, .slice pl r.lanes.length cl], .int .i64 x, .int .i64 (k : Int)] W fun e w' => (∃ v, e = .returned v ∧ KQ w' v) ∧ Below W.heap.size W w') := by
          refine Hid.intro (fun W hW => ?_)
          have hwd := fun h2 : r.kind = 2 => reqOk_words (atmOk_and HOK.out).2.2.2 (.inl h2)
          have hln := burst_ln (req_parts (atmOk_and HOK.out).2.2.2).2.1
          rw [← EA.out] at hln
          have := crOne_any r pd pl cd cl x k W (HAL.out.2.1.below hW) (fun h2 => by obtain ⟨u1, u2, _, _⟩ := hwd h2; omega)
          unfold reqV at this
          refine this.mono ?_
          rintro e w' ⟨⟨v, rfl, qd, dd, ql, ll, ev, o1, o2, u⟩, hb⟩
          exact ⟨⟨v, rfl, by rw [hKQ]; exact ⟨qd, dd, ql, ll, ev, o1.mono hW.size, o2.mono hW.size, u⟩⟩, hb⟩
        have HDO1 : Hid (∀ v W, Below wr.heap.size wr W → KQ W v → Calls Try.prog 13 #[.slice (some ⟨b, 0, none⟩) ms.length c, .agg #[.slice pw y.words.length cw, .slice ph y.holds.length ch], .int .i64 who, v] W fun e w' => (∃ v, e = .returned v ∧ K5 w' v) ∧ Below W.heap.size W w') := by
          refine Hid.intro (fun v W hW hq => ?_)
          rw [hKQ] at hq
          obtain ⟨qd, dd, ql, ll, rfl, hqa⟩ := kOne_at hq
          have hz1 : atmZ ms y who (oneR r x k) = (y', ⟨r.id, 1, dk⟩) := by rw [atmZ_may HD1.out.1, HD1.out.2.1, HY'.out]
          have := atmF_at HC.out hz1 (HAL.out.1.below hW) HXC.out.1 HXC.out.2 (HST.out.below hW) hqa
          unfold stV at this
          refine this.mono ?_
          rintro e w' ⟨pw', cw', ph', ch', px', cx', rfl, hO, hb⟩
          exact ⟨⟨_, rfl, by rw [hK5]; exact ⟨pw', cw', ph', ch', px', cx', rfl, ⟨hO.words.mono hW.size, hO.holds.mono hW.size, hO.data.mono hW.size, hO.cw1, hO.cw2, hO.ch1, hO.ch2, hO.cx1, hO.cx2, hO.wh, hO.wx, hO.hx⟩⟩⟩, hb⟩
        have HK5 := Hid.intro hK5
        clear hcs hx hok1 hdo1 hws1 hst1 hy' hK5 hKQ hbel
        go_wp2_with fail
        refine wp_region_fl (by kernel_rfl) (fl_brs (.slice (some ⟨b, 0, none⟩) ms.length c) (.agg #[.slice pw y.words.length cw, .slice ph y.holds.length ch]) (.int .i64 who) (.agg #[.int .i64 r.id, .int .i64 r.kind, .int .i64 r.addr, .int .i64 r.many, .bool r.wrap, .slice pd r.data.length cd, .slice pl r.lanes.length cl]) (.slice (some ⟨ba, oa, none⟩) A.length ca) (.int .i64 (k : Int)) (.pointer (some ⟨ba, oa + k, none⟩)) (.int .i64 x) Y Q KQ wr.heap.size K5) (fun _ => Below wr.heap.size wr) [77, 78, 79, 80, 81, 82, 83, 84, 85, 86, 87, 76, 88, 89, 15, 16] (by kernel_rfl) (by kernel_rfl) (by kernel_rfl) ?c0 ?looks ?done
        case looks =>
          intro hcl i o ho
          rcases i with _ | _ | _ | _ | _ | _ | _ | _ | _ | _ | _ | _ | _ | _ | _ | _ | _ | _ | i
          · simp at ho; subst ho
            refine fo_det (st_brs (.slice (some ⟨b, 0, none⟩) ms.length c) (.agg #[.slice pw y.words.length cw, .slice ph y.holds.length ch]) (.int .i64 who) (.agg #[.int .i64 r.id, .int .i64 r.kind, .int .i64 r.addr, .int .i64 r.many, .bool r.wrap, .slice pd r.data.length cd, .slice pl r.lanes.length cl]) (.slice (some ⟨ba, oa, none⟩) A.length ca) (.int .i64 (k : Int)) (.pointer (some ⟨ba, oa + k, none⟩)) (.int .i64 x) Y Q KQ wr.heap.size K5 h5g hQg hQt) hcl rfl rfl rfl rfl (by kernel_rfl) (fun _ _ h => h) (fun done ρ W hat => ?_)
            have e3 : ρ (.tmp 3) = (.slice (some ⟨b, 0, none⟩) ms.length c) := hat.out 3 (by kernel_rfl)
            have hC := hat.cls
            have hc := hat.con
            simp only [execOp, e3]
            go_simp
          · simp at ho; subst ho
            refine fo_det (st_brs (.slice (some ⟨b, 0, none⟩) ms.length c) (.agg #[.slice pw y.words.length cw, .slice ph y.holds.length ch]) (.int .i64 who) (.agg #[.int .i64 r.id, .int .i64 r.kind, .int .i64 r.addr, .int .i64 r.many, .bool r.wrap, .slice pd r.data.length cd, .slice pl r.lanes.length cl]) (.slice (some ⟨ba, oa, none⟩) A.length ca) (.int .i64 (k : Int)) (.pointer (some ⟨ba, oa + k, none⟩)) (.int .i64 x) Y Q KQ wr.heap.size K5 h5g hQg hQt) hcl rfl rfl rfl rfl (by kernel_rfl) (fun _ _ h => h) (fun done ρ W hat => ?_)
            have e12 : ρ (.tmp 12) = .pointer (some ⟨Y, 0, none⟩) := hat.out 12 (by kernel_rfl)
            have hC := hat.cls
            have hbx := (hC.block _ hlY).trans HYY.out
            have c0 := (heap_cell hbx 0).trans rfl
            have c1 := (heap_cell hbx 1).trans rfl
            have hc := hat.con
            simp only [execOp, e12]
            go_simp
          · simp at ho; subst ho
            refine fo_det (st_brs (.slice (some ⟨b, 0, none⟩) ms.length c) (.agg #[.slice pw y.words.length cw, .slice ph y.holds.length ch]) (.int .i64 who) (.agg #[.int .i64 r.id, .int .i64 r.kind, .int .i64 r.addr, .int .i64 r.many, .bool r.wrap, .slice pd r.data.length cd, .slice pl r.lanes.length cl]) (.slice (some ⟨ba, oa, none⟩) A.length ca) (.int .i64 (k : Int)) (.pointer (some ⟨ba, oa + k, none⟩)) (.int .i64 x) Y Q KQ wr.heap.size K5 h5g hQg hQt) hcl rfl rfl rfl rfl (by kernel_rfl) (fun _ _ h => h) (fun done ρ W hat => ?_)
            have e5 : ρ (.tmp 5) = (.int .i64 who) := hat.out 5 (by kernel_rfl)
            have hC := hat.cls
            have hc := hat.con
            simp only [execOp, e5]
            go_simp
          · simp at ho; subst ho
            refine fo_det (st_brs (.slice (some ⟨b, 0, none⟩) ms.length c) (.agg #[.slice pw y.words.length cw, .slice ph y.holds.length ch]) (.int .i64 who) (.agg #[.int .i64 r.id, .int .i64 r.kind, .int .i64 r.addr, .int .i64 r.many, .bool r.wrap, .slice pd r.data.length cd, .slice pl r.lanes.length cl]) (.slice (some ⟨ba, oa, none⟩) A.length ca) (.int .i64 (k : Int)) (.pointer (some ⟨ba, oa + k, none⟩)) (.int .i64 x) Y Q KQ wr.heap.size K5 h5g hQg hQt) hcl rfl rfl rfl rfl (by kernel_rfl) (fun _ _ h => h) (fun done ρ W hat => ?_)
            have e6 : ρ (.tmp 6) = .pointer (some ⟨Q, 0, none⟩) := hat.out 6 (by kernel_rfl)
            have hC := hat.cls
            have hbx := (hC.block _ hlQ).trans HQQ.out
            have c0 := (heap_cell hbx 0).trans rfl
            have c1 := (heap_cell hbx 1).trans rfl
            have c2 := (heap_cell hbx 2).trans rfl
            have c3 := (heap_cell hbx 3).trans rfl
            have c4 := (heap_cell hbx 4).trans rfl
            have c5 := (heap_cell hbx 5).trans rfl
            have c6 := (heap_cell hbx 6).trans rfl
            have hc := hat.con
            simp only [execOp, e6]
            go_simp
          · simp at ho; subst ho
            refine fo_det (st_brs (.slice (some ⟨b, 0, none⟩) ms.length c) (.agg #[.slice pw y.words.length cw, .slice ph y.holds.length ch]) (.int .i64 who) (.agg #[.int .i64 r.id, .int .i64 r.kind, .int .i64 r.addr, .int .i64 r.many, .bool r.wrap, .slice pd r.data.length cd, .slice pl r.lanes.length cl]) (.slice (some ⟨ba, oa, none⟩) A.length ca) (.int .i64 (k : Int)) (.pointer (some ⟨ba, oa + k, none⟩)) (.int .i64 x) Y Q KQ wr.heap.size K5 h5g hQg hQt) hcl rfl rfl rfl rfl (by kernel_rfl) (fun _ _ h => h) (fun done ρ W hat => ?_)
            have e11 : ρ (.tmp 11) = (.slice (some ⟨ba, oa, none⟩) A.length ca) := hat.out 11 (by kernel_rfl)
            have hC := hat.cls
            have hc := hat.con
            simp only [execOp, e11]
            go_simp
          · simp at ho; subst ho
            refine fo_det (st_brs (.slice (some ⟨b, 0, none⟩) ms.length c) (.agg #[.slice pw y.words.length cw, .slice ph y.holds.length ch]) (.int .i64 who) (.agg #[.int .i64 r.id, .int .i64 r.kind, .int .i64 r.addr, .int .i64 r.many, .bool r.wrap, .slice pd r.data.length cd, .slice pl r.lanes.length cl]) (.slice (some ⟨ba, oa, none⟩) A.length ca) (.int .i64 (k : Int)) (.pointer (some ⟨ba, oa + k, none⟩)) (.int .i64 x) Y Q KQ wr.heap.size K5 h5g hQg hQt) hcl rfl rfl rfl rfl (by kernel_rfl) (fun _ _ h => h) (fun done ρ W hat => ?_)
            have e14 : ρ (.tmp 14) = (.int .i64 (k : Int)) := hat.out 14 (by kernel_rfl)
            have hC := hat.cls
            have hc := hat.con
            simp only [execOp, e14]
            go_simp
          · simp at ho; subst ho
            refine fo_det (st_brs (.slice (some ⟨b, 0, none⟩) ms.length c) (.agg #[.slice pw y.words.length cw, .slice ph y.holds.length ch]) (.int .i64 who) (.agg #[.int .i64 r.id, .int .i64 r.kind, .int .i64 r.addr, .int .i64 r.many, .bool r.wrap, .slice pd r.data.length cd, .slice pl r.lanes.length cl]) (.slice (some ⟨ba, oa, none⟩) A.length ca) (.int .i64 (k : Int)) (.pointer (some ⟨ba, oa + k, none⟩)) (.int .i64 x) Y Q KQ wr.heap.size K5 h5g hQg hQt) hcl rfl rfl rfl rfl (by kernel_rfl) (fun _ _ h => h) (fun done ρ W hat => ?_)
            have e81 : ρ (.tmp 81) = (.slice (some ⟨ba, oa, none⟩) A.length ca) := fIs_at (d := 81) (v := (.slice (some ⟨ba, oa, none⟩) A.length ca)) (hat.fact 4 (by kernel_rfl))
            have e82 : ρ (.tmp 82) = (.int .i64 (k : Int)) := fIs_at (d := 82) (v := (.int .i64 (k : Int))) (hat.fact 5 (by kernel_rfl))
            have hC := hat.cls
            have hc := hat.con
            simp only [execOp, e81, e82]
            go_simp
          · simp at ho; subst ho
            refine fo_det (st_brs (.slice (some ⟨b, 0, none⟩) ms.length c) (.agg #[.slice pw y.words.length cw, .slice ph y.holds.length ch]) (.int .i64 who) (.agg #[.int .i64 r.id, .int .i64 r.kind, .int .i64 r.addr, .int .i64 r.many, .bool r.wrap, .slice pd r.data.length cd, .slice pl r.lanes.length cl]) (.slice (some ⟨ba, oa, none⟩) A.length ca) (.int .i64 (k : Int)) (.pointer (some ⟨ba, oa + k, none⟩)) (.int .i64 x) Y Q KQ wr.heap.size K5 h5g hQg hQt) hcl rfl rfl rfl rfl (by kernel_rfl) (fun _ _ h => h) (fun done ρ W hat => ?_)
            have e83 : ρ (.tmp 83) = (.pointer (some ⟨ba, oa + k, none⟩)) := fIs_at (d := 83) (v := (.pointer (some ⟨ba, oa + k, none⟩))) (hat.fact 6 (by kernel_rfl))
            have hC := hat.cls
            have c0 := (hC.cell (p := ⟨ba, _, none⟩) hlA).trans HAC.out
            have hc := hat.con
            simp only [execOp, e83]
            go_simp
          · simp at ho; subst ho
            refine fo_det (st_brs (.slice (some ⟨b, 0, none⟩) ms.length c) (.agg #[.slice pw y.words.length cw, .slice ph y.holds.length ch]) (.int .i64 who) (.agg #[.int .i64 r.id, .int .i64 r.kind, .int .i64 r.addr, .int .i64 r.many, .bool r.wrap, .slice pd r.data.length cd, .slice pl r.lanes.length cl]) (.slice (some ⟨ba, oa, none⟩) A.length ca) (.int .i64 (k : Int)) (.pointer (some ⟨ba, oa + k, none⟩)) (.int .i64 x) Y Q KQ wr.heap.size K5 h5g hQg hQt) hcl rfl rfl rfl rfl (by kernel_rfl) (fun _ _ h => h) (fun done ρ W hat => ?_)
            have e14 : ρ (.tmp 14) = (.int .i64 (k : Int)) := hat.out 14 (by kernel_rfl)
            have hC := hat.cls
            have hc := hat.con
            simp only [execOp, e14]
            go_simp
          · simp at ho; subst ho
            refine fo_grow (st_brs (.slice (some ⟨b, 0, none⟩) ms.length c) (.agg #[.slice pw y.words.length cw, .slice ph y.holds.length ch]) (.int .i64 who) (.agg #[.int .i64 r.id, .int .i64 r.kind, .int .i64 r.addr, .int .i64 r.many, .bool r.wrap, .slice pd r.data.length cd, .slice pl r.lanes.length cl]) (.slice (some ⟨ba, oa, none⟩) A.length ca) (.int .i64 (k : Int)) (.pointer (some ⟨ba, oa + k, none⟩)) (.int .i64 x) Y Q KQ wr.heap.size K5 h5g hQg hQt) hcl rfl rfl (fun done ρ W hat => ?_)
            have e80 : ρ (.tmp 80) = .agg #[.int .i64 r.id, .int .i64 r.kind, .int .i64 r.addr, .int .i64 r.many, .bool r.wrap, .slice pd r.data.length cd, .slice pl r.lanes.length cl] := fIs_at (d := 80) (v := .agg #[.int .i64 r.id, .int .i64 r.kind, .int .i64 r.addr, .int .i64 r.many, .bool r.wrap, .slice pd r.data.length cd, .slice pl r.lanes.length cl]) (hat.fact 3 (by kernel_rfl))
            have e84 : ρ (.tmp 84) = .int .i64 x := fIs_at (d := 84) (v := .int .i64 x) (hat.fact 7 (by kernel_rfl))
            have e85 : ρ (.tmp 85) = .int .i64 (k : Int) := fIs_at (d := 85) (v := .int .i64 (k : Int)) (hat.fact 8 (by kernel_rfl))
            have hC := hat.cls
            have hf := hat.fn
            refine up_call 17 #[.agg #[.int .i64 r.id, .int .i64 r.kind, .int .i64 r.addr, .int .i64 r.many, .bool r.wrap, .slice pd r.data.length cd, .slice pl r.lanes.length cl], .int .i64 x, .int .i64 (k : Int)] (by simp only [execOp]; go_simp) ?_
            refine (HCO.out W hC).mono ?_
            rintro e W1 ⟨⟨v, rfl, hKv⟩, hb⟩
            exact ⟨v, rfl, hC.trans (hb.mono hC.size), hb, fK_mk (by rw [updV_same]; exact hKv), free_spec (by kernel_rfl) hat.lt⟩
          · simp at ho; subst ho
            refine fo_grow (st_brs (.slice (some ⟨b, 0, none⟩) ms.length c) (.agg #[.slice pw y.words.length cw, .slice ph y.holds.length ch]) (.int .i64 who) (.agg #[.int .i64 r.id, .int .i64 r.kind, .int .i64 r.addr, .int .i64 r.many, .bool r.wrap, .slice pd r.data.length cd, .slice pl r.lanes.length cl]) (.slice (some ⟨ba, oa, none⟩) A.length ca) (.int .i64 (k : Int)) (.pointer (some ⟨ba, oa + k, none⟩)) (.int .i64 x) Y Q KQ wr.heap.size K5 h5g hQg hQt) hcl rfl rfl (fun done ρ W hat => ?_)
            have e77 : ρ (.tmp 77) = (.slice (some ⟨b, 0, none⟩) ms.length c) := fIs_at (d := 77) (v := (.slice (some ⟨b, 0, none⟩) ms.length c)) (hat.fact 0 (by kernel_rfl))
            have e78 : ρ (.tmp 78) = (.agg #[.slice pw y.words.length cw, .slice ph y.holds.length ch]) := fIs_at (d := 78) (v := (.agg #[.slice pw y.words.length cw, .slice ph y.holds.length ch])) (hat.fact 1 (by kernel_rfl))
            have e79 : ρ (.tmp 79) = (.int .i64 who) := fIs_at (d := 79) (v := (.int .i64 who)) (hat.fact 2 (by kernel_rfl))
            have hC := hat.cls
            have hf := hat.fn
            have hq : KQ W (ρ (.tmp 86)) := fK_at (d := 86) (K := KQ) (hat.fact 9 (by kernel_rfl))
            obtain ⟨v86, e86⟩ : ∃ v, ρ (.tmp 86) = v := ⟨_, rfl⟩
            rw [e86] at hq
            refine up_call 13 #[.slice (some ⟨b, 0, none⟩) ms.length c, .agg #[.slice pw y.words.length cw, .slice ph y.holds.length ch], .int .i64 who, v86] (by simp only [execOp]; go_simp) ?_
            refine (HDO1.out v86 W hC hq).mono ?_
            rintro e W1 ⟨⟨v, rfl, hKv⟩, hb⟩
            exact ⟨v, rfl, hC.trans (hb.mono hC.size), hb, fK_mk (by rw [updV_same]; exact hKv), free_spec (by kernel_rfl) hat.lt⟩
          · simp at ho; subst ho
            refine fo_grow (st_brs (.slice (some ⟨b, 0, none⟩) ms.length c) (.agg #[.slice pw y.words.length cw, .slice ph y.holds.length ch]) (.int .i64 who) (.agg #[.int .i64 r.id, .int .i64 r.kind, .int .i64 r.addr, .int .i64 r.many, .bool r.wrap, .slice pd r.data.length cd, .slice pl r.lanes.length cl]) (.slice (some ⟨ba, oa, none⟩) A.length ca) (.int .i64 (k : Int)) (.pointer (some ⟨ba, oa + k, none⟩)) (.int .i64 x) Y Q KQ wr.heap.size K5 h5g hQg hQt) hcl rfl rfl (fun done ρ W hat => ?_)
            have hC := hat.cls
            have hK : K5 W (ρ (.tmp 87)) := (fK_at (d := 87) (K := K5) (hat.fact 10 (by kernel_rfl)))
            refine up_val (ρ (.tmp 87)) W (by simp only [execOp]; go_simp) ⟨hC, Gr.refl _, fK_mk (by rw [updV_same]; exact hK), free_spec (by kernel_rfl) hat.lt⟩
          · simp at ho; subst ho
            refine fo_grow (st_brs (.slice (some ⟨b, 0, none⟩) ms.length c) (.agg #[.slice pw y.words.length cw, .slice ph y.holds.length ch]) (.int .i64 who) (.agg #[.int .i64 r.id, .int .i64 r.kind, .int .i64 r.addr, .int .i64 r.many, .bool r.wrap, .slice pd r.data.length cd, .slice pl r.lanes.length cl]) (.slice (some ⟨ba, oa, none⟩) A.length ca) (.int .i64 (k : Int)) (.pointer (some ⟨ba, oa + k, none⟩)) (.int .i64 x) Y Q KQ wr.heap.size K5 h5g hQg hQt) hcl rfl rfl (fun done ρ W hat => ?_)
            have hC := hat.cls
            have hK : K5 W (ρ (.tmp 76)) := (fK_at (d := 76) (K := K5) (hat.fact 11 (by kernel_rfl)))
            obtain ⟨va, vb, em⟩ := h5t _ _ hK
            refine up_val va W (by simp only [execOp]; go_simp) ⟨hC, Gr.refl _, ⟨vb, ?_⟩, free_spec (by kernel_rfl) hat.lt⟩
            exact em
          · simp at ho; subst ho
            refine fo_grow (st_brs (.slice (some ⟨b, 0, none⟩) ms.length c) (.agg #[.slice pw y.words.length cw, .slice ph y.holds.length ch]) (.int .i64 who) (.agg #[.int .i64 r.id, .int .i64 r.kind, .int .i64 r.addr, .int .i64 r.many, .bool r.wrap, .slice pd r.data.length cd, .slice pl r.lanes.length cl]) (.slice (some ⟨ba, oa, none⟩) A.length ca) (.int .i64 (k : Int)) (.pointer (some ⟨ba, oa + k, none⟩)) (.int .i64 x) Y Q KQ wr.heap.size K5 h5g hQg hQt) hcl rfl rfl (fun done ρ W hat => ?_)
            have hC := hat.cls
            have hK : K5 W (ρ (.tmp 76)) := (fK_at (d := 76) (K := K5) (hat.fact 11 (by kernel_rfl)))
            obtain ⟨va, vb, em⟩ := h5t _ _ hK
            refine up_val vb W (by simp only [execOp]; go_simp) ⟨hC, Gr.refl _, ⟨va, ?_⟩, free_spec (by kernel_rfl) hat.lt⟩
            exact em
          · simp at ho; subst ho
            refine fo_grow (st_brs (.slice (some ⟨b, 0, none⟩) ms.length c) (.agg #[.slice pw y.words.length cw, .slice ph y.holds.length ch]) (.int .i64 who) (.agg #[.int .i64 r.id, .int .i64 r.kind, .int .i64 r.addr, .int .i64 r.many, .bool r.wrap, .slice pd r.data.length cd, .slice pl r.lanes.length cl]) (.slice (some ⟨ba, oa, none⟩) A.length ca) (.int .i64 (k : Int)) (.pointer (some ⟨ba, oa + k, none⟩)) (.int .i64 x) Y Q KQ wr.heap.size K5 h5g hQg hQt) hcl rfl rfl (fun done ρ W hat => ?_)
            have hC := hat.cls
            refine up_val (.pointer (some ⟨W.heap.size, 0, none⟩)) (W.alloc (.cells #[.slice none 0 0, .slice none 0 0] 28)) (by simp only [execOp]; go_simp) ⟨hC.trans ((below_nw _ _).mono hC.size), below_nw _ _, ⟨W.heap.size, _, _, ?_, hC.size, nw_at _ rfl⟩, free_spec (by kernel_rfl) hat.lt⟩
            exact rfl
          · simp at ho; subst ho
            refine fo_grow (st_brs (.slice (some ⟨b, 0, none⟩) ms.length c) (.agg #[.slice pw y.words.length cw, .slice ph y.holds.length ch]) (.int .i64 who) (.agg #[.int .i64 r.id, .int .i64 r.kind, .int .i64 r.addr, .int .i64 r.many, .bool r.wrap, .slice pd r.data.length cd, .slice pl r.lanes.length cl]) (.slice (some ⟨ba, oa, none⟩) A.length ca) (.int .i64 (k : Int)) (.pointer (some ⟨ba, oa + k, none⟩)) (.int .i64 x) Y Q KQ wr.heap.size K5 h5g hQg hQt) hcl rfl rfl (fun done ρ W hat => ?_)
            have hC := hat.cls
            refine up_val (.pointer (some ⟨W.heap.size, 0, none⟩)) (W.alloc (.cells #[.int .i64 0, .int .i64 0, .slice none 0 0] 44)) (by simp only [execOp]; go_simp) ⟨hC.trans ((below_nw _ _).mono hC.size), below_nw _ _, ⟨W.heap.size, _, _, _, ?_, hC.size, nw_at _ rfl⟩, free_spec (by kernel_rfl) hat.lt⟩
            exact rfl
          · simp at ho; subst ho
            refine fo_rel (S := KT 28) (E := [14, 16]) (kta_brs (.slice (some ⟨b, 0, none⟩) ms.length c) (.agg #[.slice pw y.words.length cw, .slice ph y.holds.length ch]) (.int .i64 who) (.agg #[.int .i64 r.id, .int .i64 r.kind, .int .i64 r.addr, .int .i64 r.many, .bool r.wrap, .slice pd r.data.length cd, .slice pl r.lanes.length cl]) (.slice (some ⟨ba, oa, none⟩) A.length ca) (.int .i64 (k : Int)) (.pointer (some ⟨ba, oa + k, none⟩)) (.int .i64 x) Y Q KQ wr.heap.size K5 h5ta hQg hQt) hcl rfl rfl (fun done ρ W hat => ?_)
            have hC := hat.cls
            have hK : K5 W (ρ (.tmp 76)) := (fK_at (d := 76) (K := K5) (hat.fact 11 (by kernel_rfl)))
            obtain ⟨bb, ex⟩ := hat.fact 12 (by kernel_rfl)
            obtain ⟨b, o0, o1, eb, hMb, hbx⟩ := hat.fact 14 (by kernel_rfl)
            have ex : ρ (.tmp 76) = .tuple #[ρ (.tmp 88), bb] := ex
            have eb : ρ (.tmp 15) = .pointer (some ⟨b, 0, none⟩) := eb
            obtain ⟨p0, n0, k0, p1, n1, k1, v2, ev⟩ := h5s _ _ hK
            rw [ev] at ex
            simp only [Value.tuple.injEq, List.toArray_inj, Array.mk.injEq, List.cons.injEq] at ex
            have ex : ρ (.tmp 88) = .agg #[.slice p0 n0 k0, .slice p1 n1 k1] := ex.1.symm
            have hR1 := heap_set hbx 0 (.slice p0 n0 k0)
            refine up_store2 rfl eb ex hbx ⟨(hC.setCell (p := ⟨b, 0, none⟩) hMb _).setCell (p := ⟨b, 1, none⟩) hMb _, (KT.set hbx _).trans (KT.set hR1 _), ⟨b, _, _, eb, hMb, ex, (heap_set hR1 1 _).trans rfl⟩, fun j hj hcj => ?_⟩
            rcases aska_brs j (hat.lt j hj) hcj with rfl | rfl
            · exact ⟨b, _, _, eb, hMb, (heap_set hR1 1 _).trans rfl⟩
            · rw [hat.new] at hj; cases hj
          · simp at ho; subst ho
            refine fo_rel (S := KT 44) (E := [15, 17]) (ktb_brs (.slice (some ⟨b, 0, none⟩) ms.length c) (.agg #[.slice pw y.words.length cw, .slice ph y.holds.length ch]) (.int .i64 who) (.agg #[.int .i64 r.id, .int .i64 r.kind, .int .i64 r.addr, .int .i64 r.many, .bool r.wrap, .slice pd r.data.length cd, .slice pl r.lanes.length cl]) (.slice (some ⟨ba, oa, none⟩) A.length ca) (.int .i64 (k : Int)) (.pointer (some ⟨ba, oa + k, none⟩)) (.int .i64 x) Y Q KQ wr.heap.size K5 h5tb hQg hQt) hcl rfl rfl (fun done ρ W hat => ?_)
            have hC := hat.cls
            have hK : K5 W (ρ (.tmp 76)) := (fK_at (d := 76) (K := K5) (hat.fact 11 (by kernel_rfl)))
            obtain ⟨bb, ex⟩ := hat.fact 13 (by kernel_rfl)
            obtain ⟨b, o0, o1, o2, eb, hMb, hbx⟩ := hat.fact 15 (by kernel_rfl)
            have ex : ρ (.tmp 76) = .tuple #[bb, ρ (.tmp 89)] := ex
            have eb : ρ (.tmp 16) = .pointer (some ⟨b, 0, none⟩) := eb
            obtain ⟨va, i0, i1, p2, n2, k2, ev⟩ := h5x _ _ hK
            rw [ev] at ex
            simp only [Value.tuple.injEq, List.toArray_inj, Array.mk.injEq, List.cons.injEq] at ex
            have ex : ρ (.tmp 89) = .agg #[.int .i64 i0, .int .i64 i1, .slice p2 n2 k2] := ex.2.1.symm
            have hR1 := heap_set hbx 0 (.int .i64 i0)
            have hR2 := heap_set hR1 1 (.int .i64 i1)
            refine up_store3 rfl eb ex hbx ⟨((hC.setCell (p := ⟨b, 0, none⟩) hMb _).setCell (p := ⟨b, 1, none⟩) hMb _).setCell (p := ⟨b, 2, none⟩) hMb _, ((KT.set hbx _).trans (KT.set hR1 _)).trans (KT.set hR2 _), ⟨b, _, _, _, eb, hMb, ex, (heap_set hR2 2 _).trans rfl⟩, fun j hj hcj => ?_⟩
            rcases askb_brs j (hat.lt j hj) hcj with rfl | rfl
            · exact ⟨b, _, _, _, eb, hMb, (heap_set hR2 2 _).trans rfl⟩
            · rw [hat.new] at hj; cases hj
          · simp at ho
        case c0 => exact (Below.refl _ _).drew
        case done =>
          intro f W hC hf hout
          have hK : K5 W (f 76) := fK_at (d := 76) (K := K5) (hf 11 (by decide))
          obtain ⟨vb, ex0⟩ : ∃ b, f 76 = .tuple #[f 88, b] := hf 12 (by decide)
          obtain ⟨va, ex1⟩ : ∃ b, f 76 = .tuple #[b, f 89] := hf 13 (by decide)
          obtain ⟨b0, u0, u1, eb0, hM0, ev0, H0⟩ : ∃ b v0 v1, f 15 = .pointer (some ⟨b, 0, none⟩) ∧ wr.heap.size ≤ b ∧ f 88 = .agg #[v0, v1] ∧ W.heap[b]? = some (.cells #[v0, v1] 28 (0, 0)) := hf 16 (by decide)
          obtain ⟨b1, t0, t1, t2, eb1, hM1, ev1, H1⟩ : ∃ b v0 v1 v2, f 16 = .pointer (some ⟨b, 0, none⟩) ∧ wr.heap.size ≤ b ∧ f 89 = .agg #[v0, v1, v2] ∧ W.heap[b]? = some (.cells #[v0, v1, v2] 44 (0, 0)) := hf 17 (by decide)
          rw [HK5.out] at hK
          obtain ⟨pw', cw', ph', ch', px', cx', eK, hO⟩ := hK
          rw [eK] at ex0 ex1
          simp only [Value.tuple.injEq, List.toArray_inj, Array.mk.injEq, List.cons.injEq] at ex0 ex1
          rw [← ex0.1] at ev0
          rw [← ex1.2.1] at ev1
          cases ev0
          cases ev1
          have hsW := hC.size
          have hl0 := heap_lt H0
          have hl1 := heap_lt H1
          have c00 : W.cell? ⟨b0, 0, none⟩ = some (.slice pw' y'.words.length cw') := heap_cell H0 0
          have c01 : W.cell? ⟨b0, 1, none⟩ = some (.slice ph' y'.holds.length ch') := heap_cell H0 1
          have d01 : W.cell? ⟨b1, 1, none⟩ = some (.int .i64 1) := heap_cell H1 1
          have hYW := (hC.block _ hlY).trans HYY.out
          have x00 := (heap_cell hYW 0).trans rfl
          have x01 := (heap_cell hYW 1).trans rfl
          have xf0 := heap_free hYW 0
          have xf1 := heap_free hYW 1
          have n1X : b1 ≠ Y := by omega
          have HKS := Hid.intro (set2_kept W Y (.slice pw' y'.words.length cw') (.slice ph' y'.holds.length ch'))
          have H1s := (HKS.out.block b1 hl1 n1X).trans H1
          have y02 := (heap_cell H1s 2).trans rfl
          have hgY := HV.out.gY
          have hgl := HV.out.row.lt
          have hrN := Hid.intro (HV.out.row.of ((HKS.out.block g (by omega) hgY).trans (hC.block g hgl)))
          have hcp1 := Hid.intro HV.out.cp1
          have hDN : IntsAt ((W.setCell ⟨Y, 0, none⟩ (.slice pw' y'.words.length cw')).setCell ⟨Y, 1, none⟩ (.slice ph' y'.holds.length ch')) px' dk := by
            rcases hO.data with h0 | ⟨g2, e2, h2, h3⟩
            · exact .inl h0
            · rw [e2]; exact (h3.of (HKS.out.block g2 h3.lt (by omega))).ints
          have HDN := Hid.intro hDN
          have HO := Hid.intro hO
          have HCW := Hid.intro hC
          clear hf hout hC hO ex0 ex1 eK H0 H1 H1s h5g h5ta h5tb h5t h5s h5x hQg hQt HDO1 HCO HK5 hYW hDN hgY
          simp only [fill, eb0, eb1]
          go_simp
          go_wp2_with (at_builtin; refine wpList_app ws dk rfl rfl rfl hrN.out hcp1.out rfl HDN.out (by omega) ?_; intro v6 w6 hp6; obtain ⟨g', cp', ev, hinv⟩ := HV.out.step HCW.out HO.out hp6 (by simp; omega); have HV6 := Hid.intro hinv; subst ev; clear hinv hp6 hrN HDN)
          go_roundw
          case rel => exact ⟨k + 1, y', pw', ph', cw', ch', ws ++ dk, g', cp', by omega, by go_num, by rw [List.length_append], HV6, Hid.intro ⟨HY'.out, by rw [HY'.out]; exact HS1.out, by rw [HD1.out.2.2, HE.out.2.2]⟩, by simp; omega⟩
          case measure => simp [intOf]; omega
      · have hkl : k = A.length := by omega
        subst hkl
        have hkn : ¬ ((A.length : Int) < (A.length : Int)) := by omega
        obtain ⟨u1, u2⟩ := burst_end EA.out HC1.out HK.out
        rw [HDO.out] at u1 u2
        have hyz : y = zs := HE.out.1.trans u1
        have hwz : ws = zr.data := HE.out.2.2.trans u2
        subst hyz
        subst hwz
        have x0 : wr.cell? ⟨X, 0, none⟩ = some (.slice qw y.words.length dw) := heap_cell HXX.out 0
        have x1 : wr.cell? ⟨X, 1, none⟩ = some (.slice qh y.holds.length dh) := heap_cell HXX.out 1
        have y0 : wr.cell? ⟨Y, 0, none⟩ = some (.slice pw y.words.length cw) := heap_cell HYY.out 0
        have y1 : wr.cell? ⟨Y, 1, none⟩ = some (.slice ph y.holds.length ch) := heap_cell HYY.out 1
        have HROW := Hid.intro HV.out.row
        have HCP := Hid.intro (And.intro HV.out.cp1 (show zr.data.length ≤ cp by obtain ⟨_, _, _, h, _⟩ := HV.out.row; exact h))
        clear u1 u2 hbel
        go_wp2_with fail
        refine (crAtm_same y pw qw ph qh cw dw ch dh wr HST.out HAL.out.2.2.1).mono ?_
        rintro e w6 ⟨rfl, hb6⟩
        have HOO6 := (hb6.block O hlO).trans HOO.out
        have o2 : w6.cell? ⟨O, 2, none⟩ = some (.slice qx zr.data.length dx) := heap_cell HOO6 2
        have HR6 := Hid.intro (HAL.out.2.2.2.1.below hb6)
        have HI6 := Hid.intro (HROW.out.of (hb6.block g HROW.out.lt)).ints
        have hBB := HAL.out.2.2.2.2.2.trans (hb6.mono HAL.out.2.2.2.2.2.size)
        clear hb6 x0 x1 y0 y1 HOO6
        go_wp2_with fail
        refine (crInts_same (some ⟨g, 0, none⟩) qx cp dx zr.data w6 HI6.out HR6.out.data HCP.out.2 (by have := HCP.out.1; unfold maxLen at this; omega) HR6.out.c1 HR6.out.c2).mono ?_
        rintro e w7 ⟨rfl, hb7⟩
        have hB7 := hBB.trans (hb7.mono hBB.size)
        clear hb7 hBB
        go_wp2
        go_ret
        exact ⟨rfl, hB7⟩
  have hcb : zr.code = 1 := c1
  have hk1 : (r.kind == 1) = false := by simp; omega
  have hk2 : (r.kind == 2) = false := by simp; omega
  rw [c1] at o1
  go_wp2_with (go_at_call 11; refine (crOk_any _).mono ?_; rintro e w' ⟨rfl, rfl⟩)
  all_goals first | (go_ret; exact ⟨rfl, hB4⟩) | (exfalso; have h : (r.kind != 1) = false ∨ (r.kind != 2) = false := (by assumption); simp [bne, hk1, hk2] at h)

end Go.Proofs.Ytpbkpfdbdfnlbaa

/-
  Proved: a burst is its words, one by one. At every code (a row of bytes of any length) the law answers true and leaves its argument as it was. No condition.
-/
namespace Go.Proofs.Ytpbkpfdbdfnlbaa.fnAtmBurst
open Go.ChangeShapes Go.WideShapes Go.ChangeAt Go.RowKit
set_option linter.unusedVariables false
set_option linter.unusedSimpArgs false

set_option maxRecDepth 100000 in
theorem lifted (hI : AtmDoC) (os : Os) (started : os.Started) (H : Type) (enc : TypeId × Value → H) :
    ReturnsInHanded {} Try.checked os 4 .any (Rows.fnAtmBurstSpec.pre6 enc Try.prog Try.f4 Rows.fnAtmBurstRow.domain false) (Rows.fnAtmBurstSpec.post enc Try.prog Try.f4 false true false false) := by
  refine returnsInHanded_of_change (C := Try.checked) ownB started (by kernel_rfl) Try.func4
    (ChangeSpec.witness6 (enc := enc) (C := Try.checked) false ⟨#[], #[.slice none 0 0], []⟩ 8 (by kernel_rfl) (by kernel_rfl) (by kernel_rfl) (by kernel_rfl)) ?_
  intro W base args ds gs before hval0 hW hcnd _
  have hval : ∀ (j : Nat) t v, Try.f4.params[j]? = some t → args[j]? = some v → Value.okWide Try.prog W .any base t v := hval0
  have hW' := hW
  obtain ⟨p, q, hA0, hV, rfl, hfz, hnd⟩ := hW
  have hA : DataW.TrodAll enc Try.prog W 0 (fun _ => true) true Try.f4.params.toList args.toList ds p := hA0
  rw [Try.params4] at hA hval
  obtain ⟨v0, vs0, d0, ds0, p0, q0, hargs, rfl, rfl, h0, r0⟩ := trodAll_cons hA
  obtain ⟨rfl, rfl, rfl⟩ := trodAll_nil r0
  obtain rfl : args = #[v0] := by cases args; simp_all
  obtain ⟨rfl, rfl⟩ := trodVars_none hV
  obtain ⟨a0, len0, cap0, rfl⟩ := okWide_slice Try.underlying22 (hval 0 22 v0 rfl rfl)
  have k0 := h0
  have lt0 : ∀ x ∈ p0, x.block < W.heap.size := by obtain ⟨m, hm⟩ := k0; exact DataW.trod_lt m _ _ _ hm
  obtain ⟨hx, hc, hm⟩ := open_bytes h0
  clear hA0 hval0
  refine (walkC_FnAtmBurst hI a0 len0 cap0 W hc hm hx).mono fun e W' ⟨he, bel⟩ => ?_
  subst he
  exact ⟨_, rfl, _, _, _, [], _, [], hW', trodAll_mk1 (shut_bool Try.underlying4 _), (trodAll_cons_mk (Below.trod laidOutC (by kernel_rfl) (of_decide_eq_true (by kernel_rfl)) k0 bel lt0) trodAll_mk0), rfl, bel.frame _, fun h => by cases h⟩

theorem over (hI : AtmDoC) : Rows.fnAtmBurstRow.holds Try.pinned (OpenSpec.ofChange Rows.fnAtmBurstSpec) :=
  OpenClaim.holds_of_wide 4 Try.f4 rfl rfl rfl rfl rfl rfl rfl ⟨rfl, rfl, rfl, rfl, rfl⟩ rfl rfl rfl rfl rfl (by kernel_rfl) Try.func4 (by kernel_rfl)
    (of_decide_eq_true (by kernel_rfl)) (by unfold Func.isWrapper; first | (rw [if_pos (by decide +kernel)]; kernel_rfl) | (rw [if_neg (by decide +kernel)]; exact ⟨rfl, rfl⟩))
    (fun os started H enc _ => lifted hI os started H enc)

theorem proved_of (hI : AtmDoC) : Rows.FnAtmBurstSaid := over hI
end Go.Proofs.Ytpbkpfdbdfnlbaa.fnAtmBurst

namespace Go.Proofs.Ytpbkpfdbdfnlbaa.fnAtmBurst

theorem proved : Rows.FnAtmBurstSaid := proved_of impl_AtmDo
end Go.Proofs.Ytpbkpfdbdfnlbaa.fnAtmBurst
