/-
  Proved: one behind the other is one, and then the others: AtmRun of two lists, one behind the other, is that of the second one behind the first. At every code (a row of bytes of any length) the law answers true and leaves its argument as it was. No condition.
-/
import Derived.Test.YtpbkpfdbdfnlbaaProg
import Derived.Test.YtpbkpfdbdfnlbaaCrOkM
import Derived.Test.YtpbkpfdbdfnlbaaSpcH
import Derived.Test.YtpbkpfdbdfnlbaaRunLM
import Derived.Test.YtpbkpfdbdfnlbaaDrawRun
import Derived.BigQuiet
import Derived.Test.YtpbkpfdbdfnlbaaRows
import Derived.Test.YtpbkpfdbdfnlbaaLawB
import Derived.Test.YtpbkpfdbdfnlbaaRunIM
/-
  The law FnAtmRun, walked, by what AtmRun of the program answers.
-/
namespace Go.Proofs.Ytpbkpfdbdfnlbaa
open Go.RowKit
set_option linter.unusedSimpArgs false
set_option linter.unusedVariables false

theorem ys_len {ms : List Rng} {s x : Stt} {who : Int} {l : List Rq} {ys : List Rs} (h : runZ ms s who (reqs l) = (x, rsps ys)) (hl : l.length ≤ 13) : ys.length ≤ 13 := by
  by_cases hok : runOkB ms s who (reqs l) = true
  · rw [run_yes hok] at h
    injection h with _ h
    have := congrArg List.length h
    rw [runRs_len] at this
    simp [reqs, rsps] at this
    omega
  · rw [run_no (by simpa using hok)] at h
    injection h with _ h
    have := congrArg List.length h
    simp [rsps] at this
    omega
theorem grew_below {w w' : World} {o : Obj} {g' : Nat} (hG : Grew (w.alloc o) w' w.heap.size) (hg : g' = w.heap.size ∨ (w.alloc o).heap.size ≤ g') : Below w.heap.size w w' ∧ w.heap.size ≤ g' := by
  have hs := hG.size
  simp only [World.size_alloc] at hs hg
  exact ⟨⟨hG.os, hG.tape, hG.output, by omega, fun k hk => (hG.block k (by simp; omega) (by omega)).trans (Below.heap_alloc _ _ _ hk)⟩, by omega⟩
theorem grew_more {w wA wB : World} {g : Nat} (h : Below w.heap.size w wA) (hg : w.heap.size ≤ g) (hG : Grew wA wB g) : Below w.heap.size w wB :=
  h.trans ⟨hG.os, hG.tape, hG.output, hG.size, fun k hk => hG.block k (by have := h.size; omega) (by omega)⟩
theorem rsps_two {M M' : Nat} {w wB : World} {s s' : Stt} {on tw : List Rs} {pw ph g pw' ph' g' : Option Addr} {cw ch gc cw' ch' gc' : Nat} (h1 : RunOut M w s on pw cw ph ch g gc) (h2 : RunOut M' w s' tw pw' cw' ph' ch' g' gc') (hb : Below w.heap.size w wB)
    {b cp n : Nat} (hr : ORow 44 3 wB b cp n (rsCells ([] ++ on ++ tw))) : RspsAt wB (some ⟨b, 0, none⟩) ([] ++ on ++ tw) := by
  refine row_rsps hr (fun y hy => ?_)
  rw [List.nil_append] at hy
  rcases List.mem_append.1 hy with hy | hy
  · exact (h1.data.at y hy).below hb
  · exact (h2.data.at y hy).below hb
theorem run_ok6 {ms : List Rng} {s x : Stt} {who : Int} {l : List Rq} {ys : List Rs} (hok : runOkB ms s who (reqs l) = true) (h : runZ ms s who (reqs l) = (x, rsps ys)) : x.holds.length = 6 := by
  obtain ⟨p1, p2, p3, p4, p5⟩ := run_parts hok
  rw [run_yes hok] at h
  injection h with h _
  have := run_ok p1 p3 p2 p5
  rw [h] at this
  exact ((stOk_iff x).1 this).2.1

theorem run_halves {ms : List Rng} {s y z x : Stt} {who : Int} {l : List Rq} {h : Nat} {ys one two : List Rs} (hok : runOkB ms s who (reqs l) = true) (hx : runZ ms s who (reqs l) = (x, rsps ys)) (h1 : runZ ms s who (reqs (l.take h)) = (y, rsps one)) (h2 : runZ ms y who (reqs (l.drop h)) = (z, rsps two)) :
    z = x ∧ rsps (one ++ two) = rsps ys ∧ ys.length = l.length := by
  obtain ⟨p1, p2, p3, p4, p5⟩ := run_parts hok
  have e : reqs l = reqs (l.take h) ++ reqs (l.drop h) := by simp [reqs, ← List.map_append]
  have pt : progOkB (reqs (l.take h)) = true := prog_take h p5
  have pd : progOkB (reqs (l.drop h)) = true := by
    rw [e] at p5
    simp only [progOkB, List.all_append, Bool.and_eq_true] at p5
    exact p5.2
  have o1 : runOkB ms s who (reqs (l.take h)) = true := by
    have : (reqs (l.take h)).length ≤ 12 := by rw [e, List.length_append] at p4; omega
    simp [runOkB, p1, p2, p3, pt, this]
  rw [run_yes o1] at h1
  injection h1 with h1 h1'
  have hy : stOkB y = true := by rw [← h1]; exact run_ok p1 p3 p2 pt
  have o2 : runOkB ms y who (reqs (l.drop h)) = true := by
    have : (reqs (l.drop h)).length ≤ 12 := by rw [e, List.length_append] at p4; omega
    simp [runOkB, p1, hy, p3, pd, this]
  rw [run_yes o2] at h2
  injection h2 with h2 h2'
  rw [run_yes hok] at hx
  injection hx with hx hx'
  refine ⟨?_, ?_, ?_⟩
  · rw [← hx, e, runSt_app, h1, h2]
  · have : rsps (one ++ two) = rsps one ++ rsps two := by simp [rsps]
    rw [this, ← hx', e, runRs_app, h1, h1', h2']
  · have := congrArg List.length hx'
    rw [runRs_len] at this
    simpa [reqs, rsps] using this.symm

def fl_rnA (vl vs vw vq vh vp : Value) (BX : Nat) (M : Nat) (K5 : World → Value → Prop) : List Fact := [
  fIs 66 (vl),
  fIs 67 (vs),
  fIs 68 (vw),
  fIs 69 (vq),
  fIs 70 (vh),
  fIs 71 (vp),
  fK 72 K5,
  fK 65 K5,
  ⟨[65, 73], [], fun s _ _ => ∃ b, s 65 = .tuple #[s 73, b]⟩,
  ⟨[65, 74], [], fun s _ _ => ∃ b, s 65 = .tuple #[b, s 74]⟩,
  ⟨[12], [], fun s _ w => ∃ b v0 v1, s 12 = .pointer (some ⟨b, 0, none⟩) ∧ M ≤ b ∧ w.heap[b]? = some (.cells #[v0, v1] 28 (0, 0))⟩,
  ⟨[12, 73], [], fun s _ w => ∃ b v0 v1, s 12 = .pointer (some ⟨b, 0, none⟩) ∧ M ≤ b ∧ s 73 = .agg #[v0, v1] ∧ w.heap[b]? = some (.cells #[v0, v1] 28 (0, 0))⟩,
  ⟨[74, 13], [], fun s _ _ => s 13 = s 74⟩]

theorem st_rnA (vl vs vw vq vh vp : Value) (BX : Nat) (M : Nat) (K5 : World → Value → Prop) (h5g : ∀ w w' v, Gr w w' → K5 w v → K5 w' v) : ∀ F ∈ fl_rnA vl vs vw vq vh vp BX M K5, F.Stab :=
  stab_cons (fIs_stab _ _) <|
  stab_cons (fIs_stab _ _) <|
  stab_cons (fIs_stab _ _) <|
  stab_cons (fIs_stab _ _) <|
  stab_cons (fIs_stab _ _) <|
  stab_cons (fIs_stab _ _) <|
  stab_cons (fK_stab h5g) <|
  stab_cons (fK_stab h5g) <|
  stab_cons (fun _ _ _ _ _ h => h) <|
  stab_cons (fun _ _ _ _ _ h => h) <|
  stab_cons (fun _ _ _ _ hg h => (let ⟨b, v0, v1, h1, h2, h3⟩ := h; ⟨b, v0, v1, h1, h2, hg.cells h3⟩)) <|
  stab_cons (fun _ _ _ _ hg h => (let ⟨b, v0, v1, h1, h2, h3, h4⟩ := h; ⟨b, v0, v1, h1, h2, h3, hg.cells h4⟩)) <|
  stab_cons (fun _ _ _ _ _ h => h) stab_nil

theorem kta_rnA (vl vs vw vq vh vp : Value) (BX : Nat) (M : Nat) (K5 : World → Value → Prop) (h5t : ∀ w w' v, KT 28 w w' → K5 w v → K5 w' v) : ∀ j, [10, 11].contains j = false → ∀ s d w w', KT 28 w w' → (factsOf (fl_rnA vl vs vw vq vh vp BX M K5) j).body s d w → (factsOf (fl_rnA vl vs vw vq vh vp BX M K5) j).body s d w' := by
  intro j hj s d w w' hk hb
  rcases j with _ | _ | _ | _ | _ | _ | _ | _ | _ | _ | _ | _ | _ | j
  · exact hb
  · exact hb
  · exact hb
  · exact hb
  · exact hb
  · exact hb
  · exact h5t _ _ _ hk hb
  · exact h5t _ _ _ hk hb
  · exact hb
  · exact hb
  · simp at hj
  · simp at hj
  · exact hb
  · trivial

theorem aska_rnA {vl vs vw vq vh vp : Value} {BX : Nat} {M : Nat} {K5 : World → Value → Prop} (j : Nat) (hj : j < 13) (h : [10, 11].contains j = true ∨ (factsOf (fl_rnA vl vs vw vq vh vp BX M K5) j).dones.contains 11 = true) : j = 10 ∨ j = 11 := by
  rcases j with _ | _ | _ | _ | _ | _ | _ | _ | _ | _ | _ | _ | _ | j
  all_goals first | omega | (rcases h with h | h <;> exact absurd (show false = true from h) (by decide))

def fl_rnB (vl vs vw vq vh vp : Value) (BX : Nat) (M : Nat) (K5 : World → Value → Prop) : List Fact := [
  fIs 76 (vl),
  fIs 77 (vs),
  fIs 78 (vw),
  fIs 79 (vq),
  fIs 80 (vh),
  fIs 81 (vp),
  fK 82 K5,
  fK 75 K5,
  ⟨[75, 83], [], fun s _ _ => ∃ b, s 75 = .tuple #[s 83, b]⟩,
  ⟨[75, 84], [], fun s _ _ => ∃ b, s 75 = .tuple #[b, s 84]⟩,
  ⟨[14], [], fun s _ w => ∃ b v0 v1, s 14 = .pointer (some ⟨b, 0, none⟩) ∧ M ≤ b ∧ w.heap[b]? = some (.cells #[v0, v1] 28 (0, 0))⟩,
  ⟨[14, 83], [], fun s _ w => ∃ b v0 v1, s 14 = .pointer (some ⟨b, 0, none⟩) ∧ M ≤ b ∧ s 83 = .agg #[v0, v1] ∧ w.heap[b]? = some (.cells #[v0, v1] 28 (0, 0))⟩,
  ⟨[84, 15], [], fun s _ _ => s 15 = s 84⟩]

theorem st_rnB (vl vs vw vq vh vp : Value) (BX : Nat) (M : Nat) (K5 : World → Value → Prop) (h5g : ∀ w w' v, Gr w w' → K5 w v → K5 w' v) : ∀ F ∈ fl_rnB vl vs vw vq vh vp BX M K5, F.Stab :=
  stab_cons (fIs_stab _ _) <|
  stab_cons (fIs_stab _ _) <|
  stab_cons (fIs_stab _ _) <|
  stab_cons (fIs_stab _ _) <|
  stab_cons (fIs_stab _ _) <|
  stab_cons (fIs_stab _ _) <|
  stab_cons (fK_stab h5g) <|
  stab_cons (fK_stab h5g) <|
  stab_cons (fun _ _ _ _ _ h => h) <|
  stab_cons (fun _ _ _ _ _ h => h) <|
  stab_cons (fun _ _ _ _ hg h => (let ⟨b, v0, v1, h1, h2, h3⟩ := h; ⟨b, v0, v1, h1, h2, hg.cells h3⟩)) <|
  stab_cons (fun _ _ _ _ hg h => (let ⟨b, v0, v1, h1, h2, h3, h4⟩ := h; ⟨b, v0, v1, h1, h2, h3, hg.cells h4⟩)) <|
  stab_cons (fun _ _ _ _ _ h => h) stab_nil

theorem kta_rnB (vl vs vw vq vh vp : Value) (BX : Nat) (M : Nat) (K5 : World → Value → Prop) (h5t : ∀ w w' v, KT 28 w w' → K5 w v → K5 w' v) : ∀ j, [10, 11].contains j = false → ∀ s d w w', KT 28 w w' → (factsOf (fl_rnB vl vs vw vq vh vp BX M K5) j).body s d w → (factsOf (fl_rnB vl vs vw vq vh vp BX M K5) j).body s d w' := by
  intro j hj s d w w' hk hb
  rcases j with _ | _ | _ | _ | _ | _ | _ | _ | _ | _ | _ | _ | _ | j
  · exact hb
  · exact hb
  · exact hb
  · exact hb
  · exact hb
  · exact hb
  · exact h5t _ _ _ hk hb
  · exact h5t _ _ _ hk hb
  · exact hb
  · exact hb
  · simp at hj
  · simp at hj
  · exact hb
  · trivial

theorem aska_rnB {vl vs vw vq vh vp : Value} {BX : Nat} {M : Nat} {K5 : World → Value → Prop} (j : Nat) (hj : j < 13) (h : [10, 11].contains j = true ∨ (factsOf (fl_rnB vl vs vw vq vh vp BX M K5) j).dones.contains 11 = true) : j = 10 ∨ j = 11 := by
  rcases j with _ | _ | _ | _ | _ | _ | _ | _ | _ | _ | _ | _ | _ | j
  all_goals first | omega | (rcases h with h | h <;> exact absurd (show false = true from h) (by decide))

set_option maxRecDepth 100000 in
set_option maxHeartbeats 8000000 in
theorem walkC_FnAtmRun (hI : AtmRunC) (a : Option Addr) (len cap : Nat) (w : World) (hc : len ≤ cap) (hm : cap ≤ 9223372036854775807) (h : Bytes w w.heap.size a len) :
    Calls Try.prog 3 #[.slice a len cap] w fun e w' => e = .returned (.bool true) ∧ Below w.heap.size w w' := by
  by_cases hl : 1048576 < len
  · have hI1 : (1048576 : Int) < (len : Int) := by omega
    clear h hI
    go_enter Try.func3, Try.ntmps3
    go_wp2
    go_ret
    exact ⟨rfl, Below.refl _ _⟩
  have hI1 : ¬ (1048576 : Int) < (len : Int) := by omega
  have HBy := Hid.intro h
  have HC := Hid.intro hI
  clear h hI
  go_enter Try.func3, Try.ntmps3
  go_wp2_with fail
  refine (drawAtmRun_any a len cap w hc hm HBy.out).mono ?_
  rintro e w1 ⟨b, c, ms, s, bw, ow, cw, bh, oh, ch, who, g, gc, l, rfl, hM, xc, xm, x1, x7, hS, y1, y2, hL, gc1, gc2, l13, hB1⟩
  clear HBy x1 x7 y1 y2
  have HXC := Hid.intro (And.intro xc xm)
  clear xc xm
  have HM1 := Hid.intro hM
  have HS1 := Hid.intro hS
  have HL1 := Hid.intro hL
  clear hM hS hL
  unfold stV
  go_wp2_with fail
  refine (runF_at HC.out l rfl rfl (HM1.out.below (below_nw _ _)) HXC.out.1 HXC.out.2 (HS1.out.below (below_nw _ _)) (HL1.out.below (below_nw _ _)) gc1 gc2).mono ?_
  rintro e w2 ⟨x, xw, xm, xh, xn, xg, xk, ys, rfl, hz, hO, hb2⟩
  have HZ := Hid.intro hz
  have hg2 : Below w1.heap.size w1 w2 := Below.trans (below_nw w1 _) (hb2.mono (by simp))
  have hs2 := hb2.size
  simp only [World.size_alloc] at hs2
  have HM2 := Hid.intro (HM1.out.below hg2)
  have HS2 := Hid.intro (HS1.out.below hg2)
  have HL2 := Hid.intro (HL1.out.below hg2)
  have hB2 := hB1.trans (hg2.mono hB1.size)
  have bS : w2.heap[w1.heap.size]? = some (.cells #[.slice (some ⟨bw, ow, none⟩) s.words.length cw, .slice (some ⟨bh, oh, none⟩) s.holds.length ch] 28 (0, 0)) := (hb2.block _ (by simp)).trans (nw_at _ rfl)
  obtain ⟨S, eS⟩ : ∃ v, v = w1.heap.size := ⟨_, rfl⟩
  rw [← eS] at bS ⊢
  have lS2 : S < w2.heap.size := by omega
  have BS2 := Hid.intro bS
  clear HM1 HS1 HL1 hB1 bS eS hb2 hg2 hs2
  have HO2 := Hid.intro hO
  clear hO hz
  have cS0 : w2.cell? ⟨S, 0, none⟩ = some (.slice (some ⟨bw, ow, none⟩) s.words.length cw) := heap_cell BS2.out 0
  have cS1 : w2.cell? ⟨S, 1, none⟩ = some (.slice (some ⟨bh, oh, none⟩) s.holds.length ch) := heap_cell BS2.out 1
  unfold stV
  go_wp2_with fail
  refine (runF_at spec_AtmRun l rfl rfl (HM2.out.below (below_nw _ _)) HXC.out.1 HXC.out.2 (HS2.out.below (below_nw _ _)) (HL2.out.below (below_nw _ _)) gc1 gc2).mono ?_
  rintro e w3 ⟨x', vw, vm, vh, vn, vg, vk, ys', rfl, hz', hO', hb3⟩
  obtain ⟨hxe, hye⟩ : x = x' ∧ rsps ys = rsps ys' := by have e := HZ.out.symm.trans hz'; injection e with e1 e2; exact ⟨e1, e2⟩
  subst hxe
  have HYE := Hid.intro hye
  have hyl : ys.length = ys'.length := by have := congrArg List.length hye; simpa [rsps] using this
  rw [← hyl]
  clear hyl hye hz'
  have hg3 : Below w2.heap.size w2 w3 := Below.trans (below_nw w2 _) (hb3.mono (by simp))
  have hs3 := hb3.size
  simp only [World.size_alloc] at hs3
  have BS3 := Hid.intro ((hg3.block S lS2).trans BS2.out)
  have HM3 := Hid.intro (HM2.out.below hg3)
  have HS3 := Hid.intro (HS2.out.below hg3)
  have HL3 := Hid.intro (HL2.out.below hg3)
  have HO3 := Hid.intro (HO2.out.below hg3)
  have hB3 := hB2.trans (hg3.mono hB2.size)
  have lS3 : S < w3.heap.size := by omega
  have bX : w3.heap[w2.heap.size]? = some (.cells #[.slice xw x.words.length xm, .slice xh x.holds.length xn] 28 (0, 0)) := (hb3.block _ (by simp)).trans (nw_at _ rfl)
  obtain ⟨X, eX⟩ : ∃ v, v = w2.heap.size := ⟨_, rfl⟩
  rw [← eX] at bX ⊢
  have lX3 : X < w3.heap.size := by omega
  have BX3 := Hid.intro bX
  clear BS2 lS2 HM2 HS2 HL2 HO2 hB2 bX eX hb3 hg3 hs3 cS0 cS1
  have HP3 := Hid.intro hO'
  clear hO'
  have cX0 : w3.cell? ⟨X, 0, none⟩ = some (.slice xw x.words.length xm) := heap_cell BX3.out 0
  have cX1 : w3.cell? ⟨X, 1, none⟩ = some (.slice xh x.holds.length xn) := heap_cell BX3.out 1
  unfold stV
  go_wp2_with fail
  refine (crAtm_same x xw vw xh vh xm vm xn vn _ (HO3.out.st.below (below_nw _ _)) (HP3.out.st.below (below_nw _ _))).mono ?_
  rintro e w4 ⟨rfl, hb4⟩
  have hg4 : Below w3.heap.size w3 w4 := Below.trans (below_nw w3 _) (hb4.mono (by simp))
  have hs4 := hb4.size
  simp only [World.size_alloc] at hs4
  have BS4 := Hid.intro ((hg4.block S lS3).trans BS3.out)
  have BX4 := Hid.intro ((hg4.block X lX3).trans BX3.out)
  have HM4 := Hid.intro (HM3.out.below hg4)
  have HS4 := Hid.intro (HS3.out.below hg4)
  have HL4 := Hid.intro (HL3.out.below hg4)
  have HO4 := Hid.intro (HO3.out.below hg4)
  have HP4 := Hid.intro (HP3.out.below hg4)
  have hB4 := hB3.trans (hg4.mono hB3.size)
  have lS4 : S < w4.heap.size := by omega
  have lX4 : X < w4.heap.size := by omega
  have bV : w4.heap[w3.heap.size]? = some (.cells #[.slice vw x.words.length vm, .slice vh x.holds.length vn] 28 (0, 0)) := (hb4.block _ (by simp)).trans (nw_at _ rfl)
  obtain ⟨V, eV⟩ : ∃ v, v = w3.heap.size := ⟨_, rfl⟩
  rw [← eV] at bV ⊢
  have lV4 : V < w4.heap.size := by omega
  have BV4 := Hid.intro bV
  clear BS3 lS3 BX3 lX3 HM3 HS3 HL3 HO3 HP3 hB3 bV eV hb4 hg4 hs4 cX0 cX1
  go_wp2_with fail
  refine (crRsps_same xg vg ys.length xk vk ys ys' _ (HO4.out.rsps) (HP4.out.rsps) HYE.out rfl (by have := congrArg List.length HYE.out; have := HO4.out.gc1; have := ys_len HZ.out l13; omega)).mono ?_
  rintro e w5 ⟨rfl, hb5⟩
  have hg5 := hb5
  have hs5 := hb5.size
  have BS5 := Hid.intro ((hg5.block S lS4).trans BS4.out)
  have BX5 := Hid.intro ((hg5.block X lX4).trans BX4.out)
  have BV5 := Hid.intro ((hg5.block V lV4).trans BV4.out)
  have HM5 := Hid.intro (HM4.out.below hg5)
  have HS5 := Hid.intro (HS4.out.below hg5)
  have HL5 := Hid.intro (HL4.out.below hg5)
  have HO5 := Hid.intro (HO4.out.below hg5)
  have HP5 := Hid.intro (HP4.out.below hg5)
  have hB5 := hB4.trans (hg5.mono hB4.size)
  have lS5 : S < w5.heap.size := by omega
  have lX5 : X < w5.heap.size := by omega
  have lV5 : V < w5.heap.size := by omega
  clear BS4 lS4 BX4 lX4 BV4 lV4 HM4 HS4 HL4 HO4 HP4 hB4 hb5 hg5 hs5
  clear BV5 lV5
  clear HP5
  have cX0 : w5.cell? ⟨X, 0, none⟩ = some (.slice xw x.words.length xm) := heap_cell BX5.out 0
  have cX1 : w5.cell? ⟨X, 1, none⟩ = some (.slice xh x.holds.length xn) := heap_cell BX5.out 1
  cases hok : runOkB ms s who (reqs l)
  · have hxx := HZ.out
    rw [run_no hok] at hxx
    injection hxx with hx1 hx2
    subst hx1
    have hy0 : ys = [] := by simpa [rsps] using hx2.symm
    subst hy0
    go_wp2_with (go_at_call 11; refine (crOk_any _).mono ?_; rintro e w' ⟨rfl, rfl⟩)
    go_ret
    exact ⟨rfl, hB5⟩
  have HOK := Hid.intro hok
  have h6 : (x.holds.length : Int) = 6 := by have := run_ok6 hok HZ.out; omega
  have h6n : ((x.holds.length : Int) == 0) = false := by rw [h6]; rfl
  clear hok h6
  obtain ⟨j, ehf⟩ : ∃ n : Nat, n = l.length / 2 := ⟨_, rfl⟩
  have ehi : ((l.length : Int) / 2) = (j : Int) := by omega
  have ehi2 : ((l.length : Int).tdiv 2) = (j : Int) := by rw [Int.tdiv_eq_ediv_of_nonneg (by omega)]; exact ehi
  have f0 : (0 : Int) ≤ (j : Int) := by omega
  have f1 : (j : Int) ≤ (l.length : Int) := by omega
  have f2 : (j : Int) ≤ (gc : Int) := by omega
  have f3 : j ≤ l.length := by omega
  clear ehf
  go_wp2_with fail
  try rw [ehi]
  try rw [ehi2]
  clear ehi ehi2
  have HSS := BS5
  have hlS := lS5
  obtain ⟨y, ry, hzy⟩ : ∃ u v, runZ ms s who (reqs (l.take j)) = (u, v) := ⟨_, _, rfl⟩
  have HZy := Hid.intro hzy
  obtain ⟨K5, hK5⟩ : ∃ K5 : World → Value → Prop, K5 = kRun w5.heap.size y ry := ⟨_, rfl⟩
  have h5g : ∀ w w' v, Gr w w' → K5 w v → K5 w' v := by rw [hK5]; exact kRun_gr
  have h5ta : ∀ w w' v, KT 28 w w' → K5 w v → K5 w' v := by rw [hK5]; exact kRun_kt
  have h5t : ∀ W v, K5 W v → ∃ va vb, v = .tuple #[va, vb] := by rw [hK5]; exact kRun_t
  have h5s : ∀ W v, K5 W v → ∃ p0 n0 k0 p1 n1 k1 v2, v = .tuple #[.agg #[.slice p0 n0 k0, .slice p1 n1 k1], v2] := by rw [hK5]; exact kRun_s
  have HRA : Hid (∀ W, Below w5.heap.size w5 W → Calls Try.prog 7 #[.slice (some ⟨b, 0, none⟩) ms.length c, .agg #[.slice (some ⟨bw, ow, none⟩) s.words.length cw, .slice (some ⟨bh, oh, none⟩) s.holds.length ch], .int .i64 who, .slice (some ⟨g, 0, none⟩) j gc] W fun e w' => (∃ v, e = .returned v ∧ K5 w' v) ∧ Below W.heap.size W w') := by
    refine Hid.intro (fun W hW => ?_)
    have := runF_at HC.out (who := who) (l.take j) (n := j) rfl (by simp; try omega) (HM5.out.below hW) HXC.out.1 HXC.out.2 (HS5.out.below hW) ((HL5.out.take j).below hW) (qc := gc) (by omega) (by omega)
    unfold stV at this
    refine this.mono ?_
    rintro e w' ⟨y', aw, am, ah, an, ag, ak, on, rfl, hz1, hO1, hb⟩
    obtain ⟨e1, e2⟩ : y = y' ∧ ry = rsps on := by have e := HZy.out.symm.trans hz1; injection e with e1 e2; exact ⟨e1, e2⟩
    subst e1
    exact ⟨⟨_, rfl, by rw [hK5]; exact ⟨aw, am, ah, an, ag, ak, on, rfl, e2.symm, hO1.mono hW.size⟩⟩, hb⟩
  have HK5 := Hid.intro hK5
  clear hK5 hzy
  refine wp_region_fl (by kernel_rfl) (fl_rnA (.slice (some ⟨b, 0, none⟩) ms.length c) (.agg #[.slice (some ⟨bw, ow, none⟩) s.words.length cw, .slice (some ⟨bh, oh, none⟩) s.holds.length ch]) (.int .i64 who) (.slice (some ⟨g, 0, none⟩) l.length gc) (.int .i64 (j : Int)) (.slice (some ⟨g, 0, none⟩) j gc) S w5.heap.size K5) (fun _ => Below w5.heap.size w5) [66, 67, 68, 69, 70, 71, 72, 65, 73, 74, 12, 13] (by kernel_rfl) (by kernel_rfl) (by kernel_rfl) ?c0 ?looks ?done
  case looks =>
    intro hcl i o ho
    rcases i with _ | _ | _ | _ | _ | _ | _ | _ | _ | _ | _ | _ | _ | i
    · simp at ho; subst ho
      refine fo_det (st_rnA (.slice (some ⟨b, 0, none⟩) ms.length c) (.agg #[.slice (some ⟨bw, ow, none⟩) s.words.length cw, .slice (some ⟨bh, oh, none⟩) s.holds.length ch]) (.int .i64 who) (.slice (some ⟨g, 0, none⟩) l.length gc) (.int .i64 (j : Int)) (.slice (some ⟨g, 0, none⟩) j gc) S w5.heap.size K5 h5g) hcl rfl rfl rfl rfl (by kernel_rfl) (fun _ _ h => h) (fun done ρ W hat => ?_)
      have e3 : ρ (.tmp 3) = (.slice (some ⟨b, 0, none⟩) ms.length c) := hat.out 3 (by kernel_rfl)
      have hC := hat.cls
      have hc := hat.con
      simp only [execOp, e3]
      go_simp
    · simp at ho; subst ho
      refine fo_det (st_rnA (.slice (some ⟨b, 0, none⟩) ms.length c) (.agg #[.slice (some ⟨bw, ow, none⟩) s.words.length cw, .slice (some ⟨bh, oh, none⟩) s.holds.length ch]) (.int .i64 who) (.slice (some ⟨g, 0, none⟩) l.length gc) (.int .i64 (j : Int)) (.slice (some ⟨g, 0, none⟩) j gc) S w5.heap.size K5 h5g) hcl rfl rfl rfl rfl (by kernel_rfl) (fun _ _ h => h) (fun done ρ W hat => ?_)
      have e4 : ρ (.tmp 4) = .pointer (some ⟨S, 0, none⟩) := hat.out 4 (by kernel_rfl)
      have hC := hat.cls
      have hbx := (hC.block _ hlS).trans HSS.out
      have c0 := (heap_cell hbx 0).trans rfl
      have c1 := (heap_cell hbx 1).trans rfl
      have hc := hat.con
      simp only [execOp, e4]
      go_simp
    · simp at ho; subst ho
      refine fo_det (st_rnA (.slice (some ⟨b, 0, none⟩) ms.length c) (.agg #[.slice (some ⟨bw, ow, none⟩) s.words.length cw, .slice (some ⟨bh, oh, none⟩) s.holds.length ch]) (.int .i64 who) (.slice (some ⟨g, 0, none⟩) l.length gc) (.int .i64 (j : Int)) (.slice (some ⟨g, 0, none⟩) j gc) S w5.heap.size K5 h5g) hcl rfl rfl rfl rfl (by kernel_rfl) (fun _ _ h => h) (fun done ρ W hat => ?_)
      have e5 : ρ (.tmp 5) = (.int .i64 who) := hat.out 5 (by kernel_rfl)
      have hC := hat.cls
      have hc := hat.con
      simp only [execOp, e5]
      go_simp
    · simp at ho; subst ho
      refine fo_det (st_rnA (.slice (some ⟨b, 0, none⟩) ms.length c) (.agg #[.slice (some ⟨bw, ow, none⟩) s.words.length cw, .slice (some ⟨bh, oh, none⟩) s.holds.length ch]) (.int .i64 who) (.slice (some ⟨g, 0, none⟩) l.length gc) (.int .i64 (j : Int)) (.slice (some ⟨g, 0, none⟩) j gc) S w5.heap.size K5 h5g) hcl rfl rfl rfl rfl (by kernel_rfl) (fun _ _ h => h) (fun done ρ W hat => ?_)
      have e6 : ρ (.tmp 6) = (.slice (some ⟨g, 0, none⟩) l.length gc) := hat.out 6 (by kernel_rfl)
      have hC := hat.cls
      have hc := hat.con
      simp only [execOp, e6]
      go_simp
    · simp at ho; subst ho
      refine fo_det (st_rnA (.slice (some ⟨b, 0, none⟩) ms.length c) (.agg #[.slice (some ⟨bw, ow, none⟩) s.words.length cw, .slice (some ⟨bh, oh, none⟩) s.holds.length ch]) (.int .i64 who) (.slice (some ⟨g, 0, none⟩) l.length gc) (.int .i64 (j : Int)) (.slice (some ⟨g, 0, none⟩) j gc) S w5.heap.size K5 h5g) hcl rfl rfl rfl rfl (by kernel_rfl) (fun _ _ h => h) (fun done ρ W hat => ?_)
      have e11 : ρ (.tmp 11) = (.int .i64 (j : Int)) := hat.out 11 (by kernel_rfl)
      have hC := hat.cls
      have hc := hat.con
      simp only [execOp, e11]
      go_simp
    · simp at ho; subst ho
      refine fo_det (st_rnA (.slice (some ⟨b, 0, none⟩) ms.length c) (.agg #[.slice (some ⟨bw, ow, none⟩) s.words.length cw, .slice (some ⟨bh, oh, none⟩) s.holds.length ch]) (.int .i64 who) (.slice (some ⟨g, 0, none⟩) l.length gc) (.int .i64 (j : Int)) (.slice (some ⟨g, 0, none⟩) j gc) S w5.heap.size K5 h5g) hcl rfl rfl rfl rfl (by kernel_rfl) (fun _ _ h => h) (fun done ρ W hat => ?_)
      have e69 : ρ (.tmp 69) = (.slice (some ⟨g, 0, none⟩) l.length gc) := fIs_at (d := 69) (v := (.slice (some ⟨g, 0, none⟩) l.length gc)) (hat.fact 3 (by kernel_rfl))
      have e70 : ρ (.tmp 70) = (.int .i64 (j : Int)) := fIs_at (d := 70) (v := (.int .i64 (j : Int))) (hat.fact 4 (by kernel_rfl))
      have hC := hat.cls
      have hc := hat.con
      simp only [execOp, e69, e70]
      go_simp
    · simp at ho; subst ho
      refine fo_grow (st_rnA (.slice (some ⟨b, 0, none⟩) ms.length c) (.agg #[.slice (some ⟨bw, ow, none⟩) s.words.length cw, .slice (some ⟨bh, oh, none⟩) s.holds.length ch]) (.int .i64 who) (.slice (some ⟨g, 0, none⟩) l.length gc) (.int .i64 (j : Int)) (.slice (some ⟨g, 0, none⟩) j gc) S w5.heap.size K5 h5g) hcl rfl rfl (fun done ρ W hat => ?_)
      have e66 : ρ (.tmp 66) = (.slice (some ⟨b, 0, none⟩) ms.length c) := fIs_at (d := 66) (v := (.slice (some ⟨b, 0, none⟩) ms.length c)) (hat.fact 0 (by kernel_rfl))
      have e67 : ρ (.tmp 67) = (.agg #[.slice (some ⟨bw, ow, none⟩) s.words.length cw, .slice (some ⟨bh, oh, none⟩) s.holds.length ch]) := fIs_at (d := 67) (v := (.agg #[.slice (some ⟨bw, ow, none⟩) s.words.length cw, .slice (some ⟨bh, oh, none⟩) s.holds.length ch])) (hat.fact 1 (by kernel_rfl))
      have e68 : ρ (.tmp 68) = (.int .i64 who) := fIs_at (d := 68) (v := (.int .i64 who)) (hat.fact 2 (by kernel_rfl))
      have e71 : ρ (.tmp 71) = (.slice (some ⟨g, 0, none⟩) j gc) := fIs_at (d := 71) (v := (.slice (some ⟨g, 0, none⟩) j gc)) (hat.fact 5 (by kernel_rfl))
      have hC := hat.cls
      have hf := hat.fn
      refine up_call 7 #[.slice (some ⟨b, 0, none⟩) ms.length c, .agg #[.slice (some ⟨bw, ow, none⟩) s.words.length cw, .slice (some ⟨bh, oh, none⟩) s.holds.length ch], .int .i64 who, .slice (some ⟨g, 0, none⟩) j gc] (by simp only [execOp]; go_simp) ?_
      refine (HRA.out W hC).mono ?_
      rintro e W1 ⟨⟨v, rfl, hKv⟩, hb⟩
      exact ⟨v, rfl, hC.trans (hb.mono hC.size), hb, fK_mk (by rw [updV_same]; exact hKv), free_spec (by kernel_rfl) hat.lt⟩
    · simp at ho; subst ho
      refine fo_grow (st_rnA (.slice (some ⟨b, 0, none⟩) ms.length c) (.agg #[.slice (some ⟨bw, ow, none⟩) s.words.length cw, .slice (some ⟨bh, oh, none⟩) s.holds.length ch]) (.int .i64 who) (.slice (some ⟨g, 0, none⟩) l.length gc) (.int .i64 (j : Int)) (.slice (some ⟨g, 0, none⟩) j gc) S w5.heap.size K5 h5g) hcl rfl rfl (fun done ρ W hat => ?_)
      have hC := hat.cls
      have hK : K5 W (ρ (.tmp 72)) := (fK_at (d := 72) (K := K5) (hat.fact 6 (by kernel_rfl)))
      refine up_val (ρ (.tmp 72)) W (by simp only [execOp]; go_simp) ⟨hC, Gr.refl _, fK_mk (by rw [updV_same]; exact hK), free_spec (by kernel_rfl) hat.lt⟩
    · simp at ho; subst ho
      refine fo_grow (st_rnA (.slice (some ⟨b, 0, none⟩) ms.length c) (.agg #[.slice (some ⟨bw, ow, none⟩) s.words.length cw, .slice (some ⟨bh, oh, none⟩) s.holds.length ch]) (.int .i64 who) (.slice (some ⟨g, 0, none⟩) l.length gc) (.int .i64 (j : Int)) (.slice (some ⟨g, 0, none⟩) j gc) S w5.heap.size K5 h5g) hcl rfl rfl (fun done ρ W hat => ?_)
      have hC := hat.cls
      have hK : K5 W (ρ (.tmp 65)) := (fK_at (d := 65) (K := K5) (hat.fact 7 (by kernel_rfl)))
      obtain ⟨va, vb, em⟩ := h5t _ _ hK
      refine up_val va W (by simp only [execOp]; go_simp) ⟨hC, Gr.refl _, ⟨vb, ?_⟩, free_spec (by kernel_rfl) hat.lt⟩
      exact em
    · simp at ho; subst ho
      refine fo_grow (st_rnA (.slice (some ⟨b, 0, none⟩) ms.length c) (.agg #[.slice (some ⟨bw, ow, none⟩) s.words.length cw, .slice (some ⟨bh, oh, none⟩) s.holds.length ch]) (.int .i64 who) (.slice (some ⟨g, 0, none⟩) l.length gc) (.int .i64 (j : Int)) (.slice (some ⟨g, 0, none⟩) j gc) S w5.heap.size K5 h5g) hcl rfl rfl (fun done ρ W hat => ?_)
      have hC := hat.cls
      have hK : K5 W (ρ (.tmp 65)) := (fK_at (d := 65) (K := K5) (hat.fact 7 (by kernel_rfl)))
      obtain ⟨va, vb, em⟩ := h5t _ _ hK
      refine up_val vb W (by simp only [execOp]; go_simp) ⟨hC, Gr.refl _, ⟨va, ?_⟩, free_spec (by kernel_rfl) hat.lt⟩
      exact em
    · simp at ho; subst ho
      refine fo_grow (st_rnA (.slice (some ⟨b, 0, none⟩) ms.length c) (.agg #[.slice (some ⟨bw, ow, none⟩) s.words.length cw, .slice (some ⟨bh, oh, none⟩) s.holds.length ch]) (.int .i64 who) (.slice (some ⟨g, 0, none⟩) l.length gc) (.int .i64 (j : Int)) (.slice (some ⟨g, 0, none⟩) j gc) S w5.heap.size K5 h5g) hcl rfl rfl (fun done ρ W hat => ?_)
      have hC := hat.cls
      refine up_val (.pointer (some ⟨W.heap.size, 0, none⟩)) (W.alloc (.cells #[.slice none 0 0, .slice none 0 0] 28)) (by simp only [execOp]; go_simp) ⟨hC.trans ((below_nw _ _).mono hC.size), below_nw _ _, ⟨W.heap.size, _, _, ?_, hC.size, nw_at _ rfl⟩, free_spec (by kernel_rfl) hat.lt⟩
      exact rfl
    · simp at ho; subst ho
      refine fo_rel (S := KT 28) (E := [10, 11]) (kta_rnA (.slice (some ⟨b, 0, none⟩) ms.length c) (.agg #[.slice (some ⟨bw, ow, none⟩) s.words.length cw, .slice (some ⟨bh, oh, none⟩) s.holds.length ch]) (.int .i64 who) (.slice (some ⟨g, 0, none⟩) l.length gc) (.int .i64 (j : Int)) (.slice (some ⟨g, 0, none⟩) j gc) S w5.heap.size K5 h5ta) hcl rfl rfl (fun done ρ W hat => ?_)
      have hC := hat.cls
      have hK : K5 W (ρ (.tmp 65)) := (fK_at (d := 65) (K := K5) (hat.fact 7 (by kernel_rfl)))
      obtain ⟨bb, ex⟩ := hat.fact 8 (by kernel_rfl)
      obtain ⟨b, o0, o1, eb, hMb, hbx⟩ := hat.fact 10 (by kernel_rfl)
      have ex : ρ (.tmp 65) = .tuple #[ρ (.tmp 73), bb] := ex
      have eb : ρ (.tmp 12) = .pointer (some ⟨b, 0, none⟩) := eb
      obtain ⟨p0, n0, k0, p1, n1, k1, v2, ev⟩ := h5s _ _ hK
      rw [ev] at ex
      simp only [Value.tuple.injEq, List.toArray_inj, Array.mk.injEq, List.cons.injEq] at ex
      have ex : ρ (.tmp 73) = .agg #[.slice p0 n0 k0, .slice p1 n1 k1] := ex.1.symm
      have hR1 := heap_set hbx 0 (.slice p0 n0 k0)
      refine up_store2 rfl eb ex hbx ⟨(hC.setCell (p := ⟨b, 0, none⟩) hMb _).setCell (p := ⟨b, 1, none⟩) hMb _, (KT.set hbx _).trans (KT.set hR1 _), ⟨b, _, _, eb, hMb, ex, (heap_set hR1 1 _).trans rfl⟩, fun j hj hcj => ?_⟩
      rcases aska_rnA j (hat.lt j hj) hcj with rfl | rfl
      · exact ⟨b, _, _, eb, hMb, (heap_set hR1 1 _).trans rfl⟩
      · rw [hat.new] at hj; cases hj
    · simp at ho; subst ho
      refine fo_grow (st_rnA (.slice (some ⟨b, 0, none⟩) ms.length c) (.agg #[.slice (some ⟨bw, ow, none⟩) s.words.length cw, .slice (some ⟨bh, oh, none⟩) s.holds.length ch]) (.int .i64 who) (.slice (some ⟨g, 0, none⟩) l.length gc) (.int .i64 (j : Int)) (.slice (some ⟨g, 0, none⟩) j gc) S w5.heap.size K5 h5g) hcl rfl rfl (fun done ρ W hat => ?_)
      have hC := hat.cls
      refine up_val (ρ (.tmp 74)) W (by simp only [execOp]; go_simp) ⟨hC, Gr.refl _, ?_, free_spec (by kernel_rfl) hat.lt⟩
      exact rfl
    · simp at ho
  case c0 => exact (Below.refl _ _).drew
  case done =>
    intro f w6 hb6 hf hout
    have hK : K5 w6 (f 65) := fK_at (d := 65) (K := K5) (hf 7 (by decide))
    obtain ⟨vb, ex0⟩ : ∃ b, f 65 = .tuple #[f 73, b] := hf 8 (by decide)
    obtain ⟨va, ex1⟩ : ∃ b, f 65 = .tuple #[b, f 74] := hf 9 (by decide)
    have ev1 : f 13 = f 74 := hf 12 (by decide)
    obtain ⟨Y, u0, u1, eb0, hM0, ev0, H0⟩ : ∃ b v0 v1, f 12 = .pointer (some ⟨b, 0, none⟩) ∧ w5.heap.size ≤ b ∧ f 73 = .agg #[v0, v1] ∧ w6.heap[b]? = some (.cells #[v0, v1] 28 (0, 0)) := hf 11 (by decide)
    rw [HK5.out] at hK
    obtain ⟨yw, ym, yh, yn, yg, yk, on, eK, heon, hOon⟩ := hK
    rw [eK] at ex0 ex1
    simp only [Value.tuple.injEq, List.toArray_inj, Array.mk.injEq, List.cons.injEq] at ex0 ex1
    rw [← ex0.1] at ev0
    cases ev0
    have ev2 := ev1.trans ex1.2.1.symm
    have HEon := Hid.intro heon
    clear hout ex0 ex1 eK ev1 heon h5g h5ta h5t h5s HRA HK5 hM0 hf
    have hg6 := hb6
    have hs6 := hb6.size
    have BS6 := Hid.intro ((hg6.block S lS5).trans BS5.out)
    have BX6 := Hid.intro ((hg6.block X lX5).trans BX5.out)
    have HM6 := Hid.intro (HM5.out.below hg6)
    have HS6 := Hid.intro (HS5.out.below hg6)
    have HL6 := Hid.intro (HL5.out.below hg6)
    have HO6 := Hid.intro (HO5.out.below hg6)
    have hB6 := hB5.trans (hg6.mono hB5.size)
    have lS6 : S < w6.heap.size := by omega
    have lX6 : X < w6.heap.size := by omega
    clear BS5 lS5 BX5 lX5 HM5 HS5 HL5 HO5 hB5 hb6 hg6 hs6 cX0 cX1
    have BY6 := Hid.intro H0
    have lY6 := heap_lt H0
    clear H0
    have HKon6 := Hid.intro hOon
    clear hOon
    simp only [fill, eb0, ev2]
    go_simp
    clear eb0 ev2
    clear HSS hlS
    obtain ⟨off, hoff⟩ : ∃ off : Nat, (gc = j → off = 0) ∧ (gc ≠ j → off = j * 7) := by
      by_cases hcp : gc = j
      · exact ⟨0, fun _ => rfl, fun h => absurd hcp h⟩
      · exact ⟨j * 7, fun h => absurd h hcp, fun _ => rfl⟩
    have HOFF := Hid.intro hoff
    clear hoff
    have hsl : ∀ W : World, (Instr.slice 29 (.slice (some ⟨g, 0, none⟩) l.length gc) (some (.int .i64 (j : Int))) none none).run Try.prog W = .ok (.slice (some ⟨g, off, none⟩) (l.length - j) (gc - j)) W := by
      intro W
      by_cases hcp : gc = j
      · have ho0 := HOFF.out.1 hcp
        subst ho0
        first | (go_simp; intro hneg; omega) | (go_simp; omega) | go_simp
      · have ho0 := HOFF.out.2 hcp
        subst ho0
        first | (go_simp; intro hneg; omega) | (go_simp; omega) | go_simp
    have HYY := BY6
    have hlY := lY6
    go_wp2_with fail
    obtain ⟨z, rz, hzz⟩ : ∃ u v, runZ ms y who (reqs (l.drop j)) = (u, v) := ⟨_, _, rfl⟩
    have HZz := Hid.intro hzz
    obtain ⟨K5, hK5⟩ : ∃ K5 : World → Value → Prop, K5 = kRun w6.heap.size z rz := ⟨_, rfl⟩
    have h5g : ∀ w w' v, Gr w w' → K5 w v → K5 w' v := by rw [hK5]; exact kRun_gr
    have h5ta : ∀ w w' v, KT 28 w w' → K5 w v → K5 w' v := by rw [hK5]; exact kRun_kt
    have h5t : ∀ W v, K5 W v → ∃ va vb, v = .tuple #[va, vb] := by rw [hK5]; exact kRun_t
    have h5s : ∀ W v, K5 W v → ∃ p0 n0 k0 p1 n1 k1 v2, v = .tuple #[.agg #[.slice p0 n0 k0, .slice p1 n1 k1], v2] := by rw [hK5]; exact kRun_s
    have HRA : Hid (∀ W, Below w6.heap.size w6 W → Calls Try.prog 7 #[.slice (some ⟨b, 0, none⟩) ms.length c, .agg #[.slice yw y.words.length ym, .slice yh y.holds.length yn], .int .i64 who, .slice (some ⟨g, off, none⟩) (l.length - j) (gc - j)] W fun e w' => (∃ v, e = .returned v ∧ K5 w' v) ∧ Below W.heap.size W w') := by
      refine Hid.intro (fun W hW => ?_)
      have := runF_at HC.out (who := who) (l.drop j) (n := l.length - j) rfl (by simp; try omega) (HM6.out.below hW) HXC.out.1 HXC.out.2 (HKon6.out.st.below hW) ((HL6.out.drop j gc off (by omega) HOFF.out).below hW) (qc := gc - j) (by omega) (by omega)
      unfold stV at this
      refine this.mono ?_
      rintro e w' ⟨y', aw, am, ah, an, ag, ak, on, rfl, hz1, hO1, hb⟩
      obtain ⟨e1, e2⟩ : z = y' ∧ rz = rsps on := by have e := HZz.out.symm.trans hz1; injection e with e1 e2; exact ⟨e1, e2⟩
      subst e1
      exact ⟨⟨_, rfl, by rw [hK5]; exact ⟨aw, am, ah, an, ag, ak, on, rfl, e2.symm, hO1.mono hW.size⟩⟩, hb⟩
    have HK5 := Hid.intro hK5
    clear hK5 hzz
    refine wp_region_fl (by kernel_rfl) (fl_rnB (.slice (some ⟨b, 0, none⟩) ms.length c) (.agg #[.slice yw y.words.length ym, .slice yh y.holds.length yn]) (.int .i64 who) (.slice (some ⟨g, 0, none⟩) l.length gc) (.int .i64 (j : Int)) (.slice (some ⟨g, off, none⟩) (l.length - j) (gc - j)) Y w6.heap.size K5) (fun _ => Below w6.heap.size w6) [76, 77, 78, 79, 80, 81, 82, 75, 83, 84, 14, 15] (by kernel_rfl) (by kernel_rfl) (by kernel_rfl) ?c0 ?looks ?done
    case looks =>
      intro hcl i o ho
      rcases i with _ | _ | _ | _ | _ | _ | _ | _ | _ | _ | _ | _ | _ | i
      · simp at ho; subst ho
        refine fo_det (st_rnB (.slice (some ⟨b, 0, none⟩) ms.length c) (.agg #[.slice yw y.words.length ym, .slice yh y.holds.length yn]) (.int .i64 who) (.slice (some ⟨g, 0, none⟩) l.length gc) (.int .i64 (j : Int)) (.slice (some ⟨g, off, none⟩) (l.length - j) (gc - j)) Y w6.heap.size K5 h5g) hcl rfl rfl rfl rfl (by kernel_rfl) (fun _ _ h => h) (fun done ρ W hat => ?_)
        have e3 : ρ (.tmp 3) = (.slice (some ⟨b, 0, none⟩) ms.length c) := hat.out 3 (by kernel_rfl)
        have hC := hat.cls
        have hc := hat.con
        simp only [execOp, e3]
        go_simp
      · simp at ho; subst ho
        refine fo_det (st_rnB (.slice (some ⟨b, 0, none⟩) ms.length c) (.agg #[.slice yw y.words.length ym, .slice yh y.holds.length yn]) (.int .i64 who) (.slice (some ⟨g, 0, none⟩) l.length gc) (.int .i64 (j : Int)) (.slice (some ⟨g, off, none⟩) (l.length - j) (gc - j)) Y w6.heap.size K5 h5g) hcl rfl rfl rfl rfl (by kernel_rfl) (fun _ _ h => h) (fun done ρ W hat => ?_)
        have e12 : ρ (.tmp 12) = .pointer (some ⟨Y, 0, none⟩) := hat.out 12 (by kernel_rfl)
        have hC := hat.cls
        have hbx := (hC.block _ hlY).trans HYY.out
        have c0 := (heap_cell hbx 0).trans rfl
        have c1 := (heap_cell hbx 1).trans rfl
        have hc := hat.con
        simp only [execOp, e12]
        go_simp
      · simp at ho; subst ho
        refine fo_det (st_rnB (.slice (some ⟨b, 0, none⟩) ms.length c) (.agg #[.slice yw y.words.length ym, .slice yh y.holds.length yn]) (.int .i64 who) (.slice (some ⟨g, 0, none⟩) l.length gc) (.int .i64 (j : Int)) (.slice (some ⟨g, off, none⟩) (l.length - j) (gc - j)) Y w6.heap.size K5 h5g) hcl rfl rfl rfl rfl (by kernel_rfl) (fun _ _ h => h) (fun done ρ W hat => ?_)
        have e5 : ρ (.tmp 5) = (.int .i64 who) := hat.out 5 (by kernel_rfl)
        have hC := hat.cls
        have hc := hat.con
        simp only [execOp, e5]
        go_simp
      · simp at ho; subst ho
        refine fo_det (st_rnB (.slice (some ⟨b, 0, none⟩) ms.length c) (.agg #[.slice yw y.words.length ym, .slice yh y.holds.length yn]) (.int .i64 who) (.slice (some ⟨g, 0, none⟩) l.length gc) (.int .i64 (j : Int)) (.slice (some ⟨g, off, none⟩) (l.length - j) (gc - j)) Y w6.heap.size K5 h5g) hcl rfl rfl rfl rfl (by kernel_rfl) (fun _ _ h => h) (fun done ρ W hat => ?_)
        have e6 : ρ (.tmp 6) = (.slice (some ⟨g, 0, none⟩) l.length gc) := hat.out 6 (by kernel_rfl)
        have hC := hat.cls
        have hc := hat.con
        simp only [execOp, e6]
        go_simp
      · simp at ho; subst ho
        refine fo_det (st_rnB (.slice (some ⟨b, 0, none⟩) ms.length c) (.agg #[.slice yw y.words.length ym, .slice yh y.holds.length yn]) (.int .i64 who) (.slice (some ⟨g, 0, none⟩) l.length gc) (.int .i64 (j : Int)) (.slice (some ⟨g, off, none⟩) (l.length - j) (gc - j)) Y w6.heap.size K5 h5g) hcl rfl rfl rfl rfl (by kernel_rfl) (fun _ _ h => h) (fun done ρ W hat => ?_)
        have e11 : ρ (.tmp 11) = (.int .i64 (j : Int)) := hat.out 11 (by kernel_rfl)
        have hC := hat.cls
        have hc := hat.con
        simp only [execOp, e11]
        go_simp
      · simp at ho; subst ho
        refine fo_det (st_rnB (.slice (some ⟨b, 0, none⟩) ms.length c) (.agg #[.slice yw y.words.length ym, .slice yh y.holds.length yn]) (.int .i64 who) (.slice (some ⟨g, 0, none⟩) l.length gc) (.int .i64 (j : Int)) (.slice (some ⟨g, off, none⟩) (l.length - j) (gc - j)) Y w6.heap.size K5 h5g) hcl rfl rfl rfl rfl (by kernel_rfl) (fun _ _ h => h) (fun done ρ W hat => ?_)
        have e79 : ρ (.tmp 79) = (.slice (some ⟨g, 0, none⟩) l.length gc) := fIs_at (d := 79) (v := (.slice (some ⟨g, 0, none⟩) l.length gc)) (hat.fact 3 (by kernel_rfl))
        have e80 : ρ (.tmp 80) = (.int .i64 (j : Int)) := fIs_at (d := 80) (v := (.int .i64 (j : Int))) (hat.fact 4 (by kernel_rfl))
        have hC := hat.cls
        have hc := hat.con
        simp only [execOp, e79, e80]
        go_simp
      · simp at ho; subst ho
        refine fo_grow (st_rnB (.slice (some ⟨b, 0, none⟩) ms.length c) (.agg #[.slice yw y.words.length ym, .slice yh y.holds.length yn]) (.int .i64 who) (.slice (some ⟨g, 0, none⟩) l.length gc) (.int .i64 (j : Int)) (.slice (some ⟨g, off, none⟩) (l.length - j) (gc - j)) Y w6.heap.size K5 h5g) hcl rfl rfl (fun done ρ W hat => ?_)
        have e76 : ρ (.tmp 76) = (.slice (some ⟨b, 0, none⟩) ms.length c) := fIs_at (d := 76) (v := (.slice (some ⟨b, 0, none⟩) ms.length c)) (hat.fact 0 (by kernel_rfl))
        have e77 : ρ (.tmp 77) = (.agg #[.slice yw y.words.length ym, .slice yh y.holds.length yn]) := fIs_at (d := 77) (v := (.agg #[.slice yw y.words.length ym, .slice yh y.holds.length yn])) (hat.fact 1 (by kernel_rfl))
        have e78 : ρ (.tmp 78) = (.int .i64 who) := fIs_at (d := 78) (v := (.int .i64 who)) (hat.fact 2 (by kernel_rfl))
        have e81 : ρ (.tmp 81) = (.slice (some ⟨g, off, none⟩) (l.length - j) (gc - j)) := fIs_at (d := 81) (v := (.slice (some ⟨g, off, none⟩) (l.length - j) (gc - j))) (hat.fact 5 (by kernel_rfl))
        have hC := hat.cls
        have hf := hat.fn
        refine up_call 7 #[.slice (some ⟨b, 0, none⟩) ms.length c, .agg #[.slice yw y.words.length ym, .slice yh y.holds.length yn], .int .i64 who, .slice (some ⟨g, off, none⟩) (l.length - j) (gc - j)] (by simp only [execOp]; go_simp) ?_
        refine (HRA.out W hC).mono ?_
        rintro e W1 ⟨⟨v, rfl, hKv⟩, hb⟩
        exact ⟨v, rfl, hC.trans (hb.mono hC.size), hb, fK_mk (by rw [updV_same]; exact hKv), free_spec (by kernel_rfl) hat.lt⟩
      · simp at ho; subst ho
        refine fo_grow (st_rnB (.slice (some ⟨b, 0, none⟩) ms.length c) (.agg #[.slice yw y.words.length ym, .slice yh y.holds.length yn]) (.int .i64 who) (.slice (some ⟨g, 0, none⟩) l.length gc) (.int .i64 (j : Int)) (.slice (some ⟨g, off, none⟩) (l.length - j) (gc - j)) Y w6.heap.size K5 h5g) hcl rfl rfl (fun done ρ W hat => ?_)
        have hC := hat.cls
        have hK : K5 W (ρ (.tmp 82)) := (fK_at (d := 82) (K := K5) (hat.fact 6 (by kernel_rfl)))
        refine up_val (ρ (.tmp 82)) W (by simp only [execOp]; go_simp) ⟨hC, Gr.refl _, fK_mk (by rw [updV_same]; exact hK), free_spec (by kernel_rfl) hat.lt⟩
      · simp at ho; subst ho
        refine fo_grow (st_rnB (.slice (some ⟨b, 0, none⟩) ms.length c) (.agg #[.slice yw y.words.length ym, .slice yh y.holds.length yn]) (.int .i64 who) (.slice (some ⟨g, 0, none⟩) l.length gc) (.int .i64 (j : Int)) (.slice (some ⟨g, off, none⟩) (l.length - j) (gc - j)) Y w6.heap.size K5 h5g) hcl rfl rfl (fun done ρ W hat => ?_)
        have hC := hat.cls
        have hK : K5 W (ρ (.tmp 75)) := (fK_at (d := 75) (K := K5) (hat.fact 7 (by kernel_rfl)))
        obtain ⟨va, vb, em⟩ := h5t _ _ hK
        refine up_val va W (by simp only [execOp]; go_simp) ⟨hC, Gr.refl _, ⟨vb, ?_⟩, free_spec (by kernel_rfl) hat.lt⟩
        exact em
      · simp at ho; subst ho
        refine fo_grow (st_rnB (.slice (some ⟨b, 0, none⟩) ms.length c) (.agg #[.slice yw y.words.length ym, .slice yh y.holds.length yn]) (.int .i64 who) (.slice (some ⟨g, 0, none⟩) l.length gc) (.int .i64 (j : Int)) (.slice (some ⟨g, off, none⟩) (l.length - j) (gc - j)) Y w6.heap.size K5 h5g) hcl rfl rfl (fun done ρ W hat => ?_)
        have hC := hat.cls
        have hK : K5 W (ρ (.tmp 75)) := (fK_at (d := 75) (K := K5) (hat.fact 7 (by kernel_rfl)))
        obtain ⟨va, vb, em⟩ := h5t _ _ hK
        refine up_val vb W (by simp only [execOp]; go_simp) ⟨hC, Gr.refl _, ⟨va, ?_⟩, free_spec (by kernel_rfl) hat.lt⟩
        exact em
      · simp at ho; subst ho
        refine fo_grow (st_rnB (.slice (some ⟨b, 0, none⟩) ms.length c) (.agg #[.slice yw y.words.length ym, .slice yh y.holds.length yn]) (.int .i64 who) (.slice (some ⟨g, 0, none⟩) l.length gc) (.int .i64 (j : Int)) (.slice (some ⟨g, off, none⟩) (l.length - j) (gc - j)) Y w6.heap.size K5 h5g) hcl rfl rfl (fun done ρ W hat => ?_)
        have hC := hat.cls
        refine up_val (.pointer (some ⟨W.heap.size, 0, none⟩)) (W.alloc (.cells #[.slice none 0 0, .slice none 0 0] 28)) (by simp only [execOp]; go_simp) ⟨hC.trans ((below_nw _ _).mono hC.size), below_nw _ _, ⟨W.heap.size, _, _, ?_, hC.size, nw_at _ rfl⟩, free_spec (by kernel_rfl) hat.lt⟩
        exact rfl
      · simp at ho; subst ho
        refine fo_rel (S := KT 28) (E := [10, 11]) (kta_rnB (.slice (some ⟨b, 0, none⟩) ms.length c) (.agg #[.slice yw y.words.length ym, .slice yh y.holds.length yn]) (.int .i64 who) (.slice (some ⟨g, 0, none⟩) l.length gc) (.int .i64 (j : Int)) (.slice (some ⟨g, off, none⟩) (l.length - j) (gc - j)) Y w6.heap.size K5 h5ta) hcl rfl rfl (fun done ρ W hat => ?_)
        have hC := hat.cls
        have hK : K5 W (ρ (.tmp 75)) := (fK_at (d := 75) (K := K5) (hat.fact 7 (by kernel_rfl)))
        obtain ⟨bb, ex⟩ := hat.fact 8 (by kernel_rfl)
        obtain ⟨b, o0, o1, eb, hMb, hbx⟩ := hat.fact 10 (by kernel_rfl)
        have ex : ρ (.tmp 75) = .tuple #[ρ (.tmp 83), bb] := ex
        have eb : ρ (.tmp 14) = .pointer (some ⟨b, 0, none⟩) := eb
        obtain ⟨p0, n0, k0, p1, n1, k1, v2, ev⟩ := h5s _ _ hK
        rw [ev] at ex
        simp only [Value.tuple.injEq, List.toArray_inj, Array.mk.injEq, List.cons.injEq] at ex
        have ex : ρ (.tmp 83) = .agg #[.slice p0 n0 k0, .slice p1 n1 k1] := ex.1.symm
        have hR1 := heap_set hbx 0 (.slice p0 n0 k0)
        refine up_store2 rfl eb ex hbx ⟨(hC.setCell (p := ⟨b, 0, none⟩) hMb _).setCell (p := ⟨b, 1, none⟩) hMb _, (KT.set hbx _).trans (KT.set hR1 _), ⟨b, _, _, eb, hMb, ex, (heap_set hR1 1 _).trans rfl⟩, fun j hj hcj => ?_⟩
        rcases aska_rnB j (hat.lt j hj) hcj with rfl | rfl
        · exact ⟨b, _, _, eb, hMb, (heap_set hR1 1 _).trans rfl⟩
        · rw [hat.new] at hj; cases hj
      · simp at ho; subst ho
        refine fo_grow (st_rnB (.slice (some ⟨b, 0, none⟩) ms.length c) (.agg #[.slice yw y.words.length ym, .slice yh y.holds.length yn]) (.int .i64 who) (.slice (some ⟨g, 0, none⟩) l.length gc) (.int .i64 (j : Int)) (.slice (some ⟨g, off, none⟩) (l.length - j) (gc - j)) Y w6.heap.size K5 h5g) hcl rfl rfl (fun done ρ W hat => ?_)
        have hC := hat.cls
        refine up_val (ρ (.tmp 84)) W (by simp only [execOp]; go_simp) ⟨hC, Gr.refl _, ?_, free_spec (by kernel_rfl) hat.lt⟩
        exact rfl
      · simp at ho
    case c0 => exact (Below.refl _ _).drew
    case done =>
      intro f w7 hb7 hf hout
      have hK : K5 w7 (f 75) := fK_at (d := 75) (K := K5) (hf 7 (by decide))
      obtain ⟨vb, ex0⟩ : ∃ b, f 75 = .tuple #[f 83, b] := hf 8 (by decide)
      obtain ⟨va, ex1⟩ : ∃ b, f 75 = .tuple #[b, f 84] := hf 9 (by decide)
      have ev1 : f 15 = f 84 := hf 12 (by decide)
      obtain ⟨Z, u0, u1, eb0, hM0, ev0, H0⟩ : ∃ b v0 v1, f 14 = .pointer (some ⟨b, 0, none⟩) ∧ w6.heap.size ≤ b ∧ f 83 = .agg #[v0, v1] ∧ w7.heap[b]? = some (.cells #[v0, v1] 28 (0, 0)) := hf 11 (by decide)
      rw [HK5.out] at hK
      obtain ⟨zw, zm, zh, zn, zg, zk, tw, eK, hetw, hOtw⟩ := hK
      rw [eK] at ex0 ex1
      simp only [Value.tuple.injEq, List.toArray_inj, Array.mk.injEq, List.cons.injEq] at ex0 ex1
      rw [← ex0.1] at ev0
      cases ev0
      have ev2 := ev1.trans ex1.2.1.symm
      have HEtw := Hid.intro hetw
      clear hout ex0 ex1 eK ev1 hetw h5g h5ta h5t h5s HRA HK5 hM0 hf
      have hg7 := hb7
      have hs7 := hb7.size
      have BS7 := Hid.intro ((hg7.block S lS6).trans BS6.out)
      have BX7 := Hid.intro ((hg7.block X lX6).trans BX6.out)
      have BY7 := Hid.intro ((hg7.block Y lY6).trans BY6.out)
      have HM7 := Hid.intro (HM6.out.below hg7)
      have HS7 := Hid.intro (HS6.out.below hg7)
      have HL7 := Hid.intro (HL6.out.below hg7)
      have HO7 := Hid.intro (HO6.out.below hg7)
      have HKon7 := Hid.intro (HKon6.out.below hg7)
      have hB7 := hB6.trans (hg7.mono hB6.size)
      have lS7 : S < w7.heap.size := by omega
      have lX7 : X < w7.heap.size := by omega
      have lY7 : Y < w7.heap.size := by omega
      clear BS6 lS6 BX6 lX6 BY6 lY6 HM6 HS6 HL6 HO6 HKon6 hB6 hb7 hg7 hs7
      have BZ7 := Hid.intro H0
      have lZ7 := heap_lt H0
      clear H0
      have HKtw7 := Hid.intro hOtw
      clear hOtw
      simp only [fill, eb0, ev2]
      go_simp
      clear eb0 ev2
      clear HYY hlY hsl
      obtain ⟨hzx, hap, hyl⟩ := run_halves HOK.out HZ.out (HZy.out.trans (by rw [HEon.out])) (HZz.out.trans (by rw [HEtw.out]))
      subst hzx
      rw [hyl]
      have HAP := Hid.intro hap
      have HYL := Hid.intro hyl
      have hol : on.length + tw.length = l.length := by have := congrArg List.length hap; simp [rsps] at this; omega
      have HOL := Hid.intro hol
      clear hap hyl hol
      clear HS7
      clear BS7 lS7
      clear BY7 lY7
      have cX0 : w7.cell? ⟨X, 0, none⟩ = some (.slice xw z.words.length xm) := heap_cell BX7.out 0
      have cX1 : w7.cell? ⟨X, 1, none⟩ = some (.slice xh z.holds.length xn) := heap_cell BX7.out 1
      have cZ0 : w7.cell? ⟨Z, 0, none⟩ = some (.slice zw z.words.length zm) := heap_cell BZ7.out 0
      have cZ1 : w7.cell? ⟨Z, 1, none⟩ = some (.slice zh z.holds.length zn) := heap_cell BZ7.out 1
      go_wp2_with fail
      refine (crAtm_same z zw xw zh xh zm xm zn xn _ (HKtw7.out.st) (HO7.out.st)).mono ?_
      rintro e w8 ⟨rfl, hb8⟩
      have hg8 := hb8
      have hs8 := hb8.size
      have BX8 := Hid.intro ((hg8.block X lX7).trans BX7.out)
      have BZ8 := Hid.intro ((hg8.block Z lZ7).trans BZ7.out)
      have HM8 := Hid.intro (HM7.out.below hg8)
      have HL8 := Hid.intro (HL7.out.below hg8)
      have HO8 := Hid.intro (HO7.out.below hg8)
      have HKon8 := Hid.intro (HKon7.out.below hg8)
      have HKtw8 := Hid.intro (HKtw7.out.below hg8)
      have hB8 := hB7.trans (hg8.mono hB7.size)
      have lX8 : X < w8.heap.size := by omega
      have lZ8 : Z < w8.heap.size := by omega
      clear BX7 lX7 BZ7 lZ7 HM7 HL7 HO7 HKon7 HKtw7 hB7 hb8 hg8 hs8 cX0 cX1 cZ0 cZ1
      obtain ⟨E, hE⟩ : ∃ E, E = w8.heap.size := ⟨_, rfl⟩
      have hgE := below_nw w8 (.cells #[] 44)
      have hrE := Hid.intro (show ORow 44 3 (w8.alloc (.cells #[] 44)) w8.heap.size 0 0 (rsCells []) from ⟨#[], nw_at _ rfl, rfl, Nat.le_refl _, rfl, rfl⟩)
      have hY1 := Hid.intro (HKon8.out.rsps.below hgE)
      have HGE := Hid.intro hgE
      clear hgE hE
      have on13 : on.length ≤ 13 := by have := HOL.out; omega
      have tw13 : tw.length ≤ 13 := by have := HOL.out; omega
      go_wp2_with (at_builtin; first | (refine wpList_appRs [] on rfl rfl rfl rfl hrE.out (by unfold maxLen; omega) rfl rfl hY1.out (by omega) ?_; intro g1 cp1 wA hrA0 hcA0 hgA hGA; have HBA : Hid (Below w8.heap.size w8 wA ∧ w8.heap.size ≤ g1) := Hid.intro (grew_below hGA hgA); have hY2 := Hid.intro (HKtw8.out.rsps.below HBA.out.1); rw [Nat.zero_add] at hrA0; have hrA := Hid.intro hrA0; have hcA := Hid.intro hcA0; clear hrA0 hcA0 hgA hGA hrE hY1) | (refine wpList_appRs ([] ++ on) tw rfl rfl rfl (by simp) hrA.out hcA.out rfl rfl hY2.out (by omega) ?_; intro g2 cp2 wB hrB hcB hgB hGB; have HB := Hid.intro (And.intro hrB (And.intro hcB (And.intro hgB hGB))); clear hrB hcB hgB hGB hrA hY2))
      have HBB : Hid (Below w8.heap.size w8 wB) := Hid.intro (grew_more HBA.out.1 HBA.out.2 HB.out.2.2.2)
      have hRB := Hid.intro (rsps_two HKon8.out HKtw8.out HBB.out HB.out.1)
      have hRX := Hid.intro (HO8.out.rsps.below HBB.out)
      have hol := HOL.out
      try simp only [Nat.zero_add]
      try rw [hol]
      clear hol
      refine (crRsps_same (some ⟨g2, 0, none⟩) xg l.length cp2 xk ([] ++ on ++ tw) ys wB hRB.out hRX.out HAP.out (by simpa using HOL.out) (by omega)).mono ?_
      rintro e w9 ⟨rfl, hb9⟩
      have hbe := hB8.trans ((HBB.out.trans (hb9.mono HBB.out.size)).mono hB8.size)
      go_wp2
      go_ret
      exact ⟨rfl, hbe⟩

end Go.Proofs.Ytpbkpfdbdfnlbaa

/-
  Proved: one behind the other is one, and then the others. At every code (a row of bytes of any length) the law answers true and leaves its argument as it was. No condition.
-/
namespace Go.Proofs.Ytpbkpfdbdfnlbaa.fnAtmRun
open Go.ChangeShapes Go.WideShapes Go.ChangeAt Go.RowKit
set_option linter.unusedVariables false
set_option linter.unusedSimpArgs false

set_option maxRecDepth 100000 in
theorem lifted (hI : AtmRunC) (os : Os) (started : os.Started) (H : Type) (enc : TypeId × Value → H) :
    ReturnsInHanded {} Try.checked os 3 .any (Rows.fnAtmRunSpec.pre6 enc Try.prog Try.f3 Rows.fnAtmRunRow.domain false) (Rows.fnAtmRunSpec.post enc Try.prog Try.f3 false true false false) := by
  refine returnsInHanded_of_change (C := Try.checked) ownB started (by kernel_rfl) Try.func3
    (ChangeSpec.witness6 (enc := enc) (C := Try.checked) false ⟨#[], #[.slice none 0 0], []⟩ 8 (by kernel_rfl) (by kernel_rfl) (by kernel_rfl) (by kernel_rfl)) ?_
  intro W base args ds gs before hval0 hW hcnd _
  have hval : ∀ (j : Nat) t v, Try.f3.params[j]? = some t → args[j]? = some v → Value.okWide Try.prog W .any base t v := hval0
  have hW' := hW
  obtain ⟨p, q, hA0, hV, rfl, hfz, hnd⟩ := hW
  have hA : DataW.TrodAll enc Try.prog W 0 (fun _ => true) true Try.f3.params.toList args.toList ds p := hA0
  rw [Try.params3] at hA hval
  obtain ⟨v0, vs0, d0, ds0, p0, q0, hargs, rfl, rfl, h0, r0⟩ := trodAll_cons hA
  obtain ⟨rfl, rfl, rfl⟩ := trodAll_nil r0
  obtain rfl : args = #[v0] := by cases args; simp_all
  obtain ⟨rfl, rfl⟩ := trodVars_none hV
  obtain ⟨a0, len0, cap0, rfl⟩ := okWide_slice Try.underlying22 (hval 0 22 v0 rfl rfl)
  have k0 := h0
  have lt0 : ∀ x ∈ p0, x.block < W.heap.size := by obtain ⟨m, hm⟩ := k0; exact DataW.trod_lt m _ _ _ hm
  obtain ⟨hx, hc, hm⟩ := open_bytes h0
  clear hA0 hval0
  refine (walkC_FnAtmRun hI a0 len0 cap0 W hc hm hx).mono fun e W' ⟨he, bel⟩ => ?_
  subst he
  exact ⟨_, rfl, _, _, _, [], _, [], hW', trodAll_mk1 (shut_bool Try.underlying4 _), (trodAll_cons_mk (Below.trod laidOutC (by kernel_rfl) (of_decide_eq_true (by kernel_rfl)) k0 bel lt0) trodAll_mk0), rfl, bel.frame _, fun h => by cases h⟩

theorem over (hI : AtmRunC) : Rows.fnAtmRunRow.holds Try.pinned (OpenSpec.ofChange Rows.fnAtmRunSpec) :=
  OpenClaim.holds_of_wide 3 Try.f3 rfl rfl rfl rfl rfl rfl rfl ⟨rfl, rfl, rfl, rfl, rfl⟩ rfl rfl rfl rfl rfl (by kernel_rfl) Try.func3 (by kernel_rfl)
    (of_decide_eq_true (by kernel_rfl)) (by unfold Func.isWrapper; first | (rw [if_pos (by decide +kernel)]; kernel_rfl) | (rw [if_neg (by decide +kernel)]; exact ⟨rfl, rfl⟩))
    (fun os started H enc _ => lifted hI os started H enc)

theorem proved_of (hI : AtmRunC) : Rows.FnAtmRunSaid := over hI
end Go.Proofs.Ytpbkpfdbdfnlbaa.fnAtmRun

namespace Go.Proofs.Ytpbkpfdbdfnlbaa.fnAtmRun

theorem proved : Rows.FnAtmRunSaid := proved_of impl_AtmRun
end Go.Proofs.Ytpbkpfdbdfnlbaa.fnAtmRun
