/-
  Rows of what came of it: whether two are the same, appended; what AtmRun answers as one value.
-/
import Derived.Test.YtpamjkkghghggaaGreatRunIM
import Derived.Test.YtpamjkkghghggaaGreatSpcH
import Derived.Test.YtpamjkkghghggaaGreatKOut
import Derived.Test.YtpamjkkghghggaaGreatOpsXM
/-
  AtmRun of the model, walked.
-/
namespace Go.Proofs.YtpamjkkghghggaaGreat
open Go.RowKit
set_option linter.unusedSimpArgs false
set_option linter.unusedVariables false

/-- what stands ahead of a round -/
structure SpcInv (w0 : World) (R8 BX : Nat) (ms : List Rng) (who : Int) (s : Stt) (l : List Rq) (k : Nat) (ys : List Rs) (g cap : Nat) (st : Stt) (qw : Option Addr) (dw : Nat) (qh : Option Addr) (dh : Nat) (wr : World) : Prop where
  bel : Below w0.heap.size w0 wr
  r8 : wr.heap[R8]? = some (.cells #[.slice none 0 0, .slice none 0 0] 34 (0, 0))
  bx : wr.heap[BX]? = some (.cells #[.slice qw st.words.length dw, .slice qh st.holds.length dh] 34 (0, 0))
  st_eq : st = runSt ms who s (reqs (l.take k))
  words : OwnN w0.heap.size wr qw dw st.words
  holds : OwnN w0.heap.size wr qh dh st.holds
  cw1 : st.words.length ≤ dw
  cw2 : dw ≤ 9223372036854775807
  ch1 : st.holds.length ≤ dh
  ch2 : dh ≤ 9223372036854775807
  wh : Apart qw st.words qh st.holds
  wd : ∀ y ∈ ys, Apart qw st.words y.p y.x.data
  hd : ∀ y ∈ ys, Apart qh st.holds y.p y.x.data
  told : rsps ys = runRs ms who s (reqs (l.take k))
  len : ys.length = k
  row : ORow 63 3 wr g cap k (rsCells ys)
  cap1 : cap ≤ maxLen
  data : DataOk w0.heap.size wr ys
  gM : w0.heap.size ≤ g
  R0 : w0.heap.size ≤ R8
  X0 : w0.heap.size ≤ BX
  XR : BX ≠ R8
theorem SpcInv.at {w0 : World} {R8 BX : Nat} {ms : List Rng} {who : Int} {s : Stt} {l : List Rq} {k : Nat} {ys : List Rs} {g cap : Nat} {st : Stt} {qw qh : Option Addr} {dw dh : Nat} {wr : World} (h : SpcInv w0 R8 BX ms who s l k ys g cap st qw dw qh dh wr) : StAt wr st qw dw qh dh := ⟨h.words.ints, h.holds.ints, h.cw1, h.cw2, h.ch1, h.ch2⟩
theorem ORow.nest {E s : Nat} {w : World} {b cap n : Nat} {cs : List Value} {b' : Nat} {ds : Array Value} {F : TypeId} (h : ORow E s w b cap n cs) (h' : w.heap[b']? = some (.cells ds F (0, 0))) (hE : E ≠ F) : b ≠ b' := by
  rintro rfl
  obtain ⟨cur, e, _⟩ := h
  rw [e] at h'
  injection h' with e'
  injection e' with _ e' _
  exact hE e'

/-- a round: what is asked is done, the state is stored, and what came of it is appended -/
theorem SpcInv.step {w0 : World} {R8 BX : Nat} {ms : List Rng} {who : Int} {s : Stt} {l : List Rq} {k : Nat} {ys : List Rs} {g cap : Nat} {st : Stt} {qw qh : Option Addr} {dw dh : Nat} {wr w1 w3 : World} (h : SpcInv w0 R8 BX ms who s l k ys g cap st qw dw qh dh wr) (hk : k < l.length)
    (hb1 : Below wr.heap.size wr w1) {zs : Stt} {x : Rsp} (hz : atmDo ms st who l[k].r = (zs, x)) {pw ph p : Option Addr} {cw ch c : Nat} (hO : AtmOut wr.heap.size w1 zs x pw cw ph ch p c)
    (hb3 : Below ((w1.setCell ⟨BX, 0, none⟩ (.slice pw zs.words.length cw)).setCell ⟨BX, 1, none⟩ (.slice ph zs.holds.length ch)).heap.size ((w1.setCell ⟨BX, 0, none⟩ (.slice pw zs.words.length cw)).setCell ⟨BX, 1, none⟩ (.slice ph zs.holds.length ch)) w3)
    {g' cap' : Nat} {w4 : World} (hr : ORow 63 3 w4 g' cap' (k + 1) (rsCells (ys ++ [⟨x, p, c⟩]))) (hcap : cap' ≤ maxLen) (hg : g' = g ∨ w3.heap.size ≤ g') (hG : Grew w3 w4 g) :
    SpcInv w0 R8 BX ms who s l (k + 1) (ys ++ [⟨x, p, c⟩]) g' cap' zs pw cw ph ch w4 := by
  have hxl := heap_lt h.bx
  have hx1 := (hb1.block _ hxl).trans h.bx
  have hx2 := set2 hx1 (.slice pw zs.words.length cw) (.slice ph zs.holds.length ch)
  have hk2 := set2_kept w1 BX (.slice pw zs.words.length cw) (.slice ph zs.holds.length ch)
  generalize hw2 : (w1.setCell ⟨BX, 0, none⟩ (.slice pw zs.words.length cw)).setCell ⟨BX, 1, none⟩ (.slice ph zs.holds.length ch) = w2 at hx2 hk2 hb3
  have s0 := h.bel.size
  have s1 := hb1.size
  have s2 := hk2.size
  have s3 := hb3.size
  have s4 := hG.size
  have hgl := h.row.lt
  have hgM := h.gM
  have hR0 := h.R0
  have hX0 := h.X0
  have hXR := h.XR
  have hgR := h.row.nest h.r8 (by decide)
  have hgX := h.row.nest h.bx (by decide)
  have hl8 := heap_lt h.r8
  have blk : ∀ b, b < w1.heap.size → b ≠ BX → b ≠ g → w4.heap[b]? = w1.heap[b]? := fun b hb n1 n2 =>
    (hG.block b (by omega) n2).trans ((hb3.block b (by omega)).trans (hk2.block b hb n1))
  have blk0 : ∀ b, b < wr.heap.size → b ≠ BX → b ≠ g → w4.heap[b]? = wr.heap[b]? := fun b hb n1 n2 => (blk b (by omega) n1 n2).trans (hb1.block b hb)
  have own : ∀ (q : Option Addr) (cq : Nat) (v : List Int), OwnN wr.heap.size w1 q cq v → OwnN wr.heap.size w4 q cq v := fun q cq v hq => by
    rcases hq with hq | ⟨b, e, hb, hO⟩
    · exact .inl hq
    · exact .inr ⟨b, e, hb, hO.of (blk b hO.lt (by omega) (by omega))⟩
  have hap : ∀ (q : Option Addr) (cq : Nat) (v : List Int), OwnN wr.heap.size w1 q cq v → ∀ y ∈ ys, Apart q v y.p y.x.data := fun q cq v hq y hy => by
    by_cases h0 : y.x.data = []
    · exact .inr (.inl h0)
    rcases hq with hq | ⟨b, e, hb, hO⟩
    · exact .inl hq
    · exact .inr (.inr (fun e' => by have := h.data.lt y hy b h0 (e'.symm.trans e); omega))
  have hdat : DataOk w0.heap.size w4 ys := h.data.of (fun b cp n cs hMb hOb => blk0 b hOb.lt (hOb.nest h.bx (by decide)) (hOb.ne h.row (by decide)))
  refine ⟨⟨?_, ?_, ?_, by omega, fun b hb => (blk0 b (by omega) (by omega) (by omega)).trans (h.bel.block b hb)⟩, (blk0 R8 hl8 (Ne.symm hXR) (Ne.symm hgR)).trans h.r8, ?_, ?_, (own _ _ _ hO.words).mono s0, (own _ _ _ hO.holds).mono s0, hO.cw1, hO.cw2, hO.ch1, hO.ch2, hO.wh, ?_, ?_, ?_, by simp [h.len], hr, hcap, ?_, by omega, hR0, hX0, hXR⟩
  · exact hG.os.trans (hb3.os.trans (hk2.os.trans (hb1.os.trans h.bel.os)))
  · exact hG.tape.trans (hb3.tape.trans (hk2.tape.trans (hb1.tape.trans h.bel.tape)))
  · exact hG.output.trans (hb3.output.trans (hk2.output.trans (hb1.output.trans h.bel.output)))
  · exact (hG.block BX (by omega) (Ne.symm hgX)).trans ((hb3.block BX (by omega)).trans hx2)
  · rw [runSt_step hk, ← h.st_eq, hz]
  · intro y hy
    rcases List.mem_append.1 hy with hy | hy
    · exact hap _ _ _ hO.words y hy
    · have : y = ⟨x, p, c⟩ := by simpa using hy
      subst this; exact hO.wx
  · intro y hy
    rcases List.mem_append.1 hy with hy | hy
    · exact hap _ _ _ hO.holds y hy
    · have : y = ⟨x, p, c⟩ := by simpa using hy
      subst this; exact hO.hx
  · rw [runRs_step hk, ← h.told, ← h.st_eq, hz]; simp [rsps]
  · exact hdat.snoc (A := wr.heap.size) h.data.lt (own _ _ _ hO.data) hO.cx1 hO.cx2 s0

def fl_runS (vl vs vw vq vk vp vr : Value) (BX : Nat) (M : Nat) (K5 : World → Value → Prop) : List Fact := [
  fIs 50 (vl),
  fIs 51 (vs),
  fIs 52 (vw),
  fIs 53 (vq),
  fIs 54 (vk),
  fIs 55 (vp),
  fIs 56 (vr),
  fK 57 K5,
  fK 49 K5,
  ⟨[49, 58], [], fun s _ _ => ∃ b, s 49 = .tuple #[s 58, b]⟩,
  ⟨[49, 59], [], fun s _ _ => ∃ b, s 49 = .tuple #[b, s 59]⟩,
  ⟨[13], [], fun s _ w => ∃ b v0 v1, s 13 = .pointer (some ⟨b, 0, none⟩) ∧ M ≤ b ∧ w.heap[b]? = some (.cells #[v0, v1] 34 (0, 0))⟩,
  ⟨[14], [], fun s _ w => ∃ b v0 v1 v2, s 14 = .pointer (some ⟨b, 0, none⟩) ∧ M ≤ b ∧ w.heap[b]? = some (.cells #[v0, v1, v2] 63 (0, 0))⟩,
  ⟨[13, 58], [], fun s _ w => ∃ b v0 v1, s 13 = .pointer (some ⟨b, 0, none⟩) ∧ M ≤ b ∧ s 58 = .agg #[v0, v1] ∧ w.heap[b]? = some (.cells #[v0, v1] 34 (0, 0))⟩,
  ⟨[14, 59], [], fun s _ w => ∃ b v0 v1 v2, s 14 = .pointer (some ⟨b, 0, none⟩) ∧ M ≤ b ∧ s 59 = .agg #[v0, v1, v2] ∧ w.heap[b]? = some (.cells #[v0, v1, v2] 63 (0, 0))⟩]

theorem st_runS (vl vs vw vq vk vp vr : Value) (BX : Nat) (M : Nat) (K5 : World → Value → Prop) (h5g : ∀ w w' v, Gr w w' → K5 w v → K5 w' v) : ∀ F ∈ fl_runS vl vs vw vq vk vp vr BX M K5, F.Stab :=
  stab_cons (fIs_stab _ _) <|
  stab_cons (fIs_stab _ _) <|
  stab_cons (fIs_stab _ _) <|
  stab_cons (fIs_stab _ _) <|
  stab_cons (fIs_stab _ _) <|
  stab_cons (fIs_stab _ _) <|
  stab_cons (fIs_stab _ _) <|
  stab_cons (fK_stab h5g) <|
  stab_cons (fK_stab h5g) <|
  stab_cons (fun _ _ _ _ _ h => h) <|
  stab_cons (fun _ _ _ _ _ h => h) <|
  stab_cons (fun _ _ _ _ hg h => (let ⟨b, v0, v1, h1, h2, h3⟩ := h; ⟨b, v0, v1, h1, h2, hg.cells h3⟩)) <|
  stab_cons (fun _ _ _ _ hg h => (let ⟨b, v0, v1, v2, h1, h2, h3⟩ := h; ⟨b, v0, v1, v2, h1, h2, hg.cells h3⟩)) <|
  stab_cons (fun _ _ _ _ hg h => (let ⟨b, v0, v1, h1, h2, h3, h4⟩ := h; ⟨b, v0, v1, h1, h2, h3, hg.cells h4⟩)) <|
  stab_cons (fun _ _ _ _ hg h => (let ⟨b, v0, v1, v2, h1, h2, h3, h4⟩ := h; ⟨b, v0, v1, v2, h1, h2, h3, hg.cells h4⟩)) stab_nil

theorem kta_runS (vl vs vw vq vk vp vr : Value) (BX : Nat) (M : Nat) (K5 : World → Value → Prop) (h5t : ∀ w w' v, KT 34 w w' → K5 w v → K5 w' v) : ∀ j, [11, 13].contains j = false → ∀ s d w w', KT 34 w w' → (factsOf (fl_runS vl vs vw vq vk vp vr BX M K5) j).body s d w → (factsOf (fl_runS vl vs vw vq vk vp vr BX M K5) j).body s d w' := by
  intro j hj s d w w' hk hb
  rcases j with _ | _ | _ | _ | _ | _ | _ | _ | _ | _ | _ | _ | _ | _ | _ | j
  · exact hb
  · exact hb
  · exact hb
  · exact hb
  · exact hb
  · exact hb
  · exact hb
  · exact h5t _ _ _ hk hb
  · exact h5t _ _ _ hk hb
  · exact hb
  · exact hb
  · simp at hj
  · obtain ⟨b, v0, v1, v2, h1, h2, h3⟩ := hb; exact ⟨b, v0, v1, v2, h1, h2, hk.cells h3 (by decide)⟩
  · simp at hj
  · obtain ⟨b, v0, v1, v2, h1, h2, h3, h4⟩ := hb; exact ⟨b, v0, v1, v2, h1, h2, h3, hk.cells h4 (by decide)⟩
  · trivial

theorem ktb_runS (vl vs vw vq vk vp vr : Value) (BX : Nat) (M : Nat) (K5 : World → Value → Prop) (h5t : ∀ w w' v, KT 63 w w' → K5 w v → K5 w' v) : ∀ j, [12, 14].contains j = false → ∀ s d w w', KT 63 w w' → (factsOf (fl_runS vl vs vw vq vk vp vr BX M K5) j).body s d w → (factsOf (fl_runS vl vs vw vq vk vp vr BX M K5) j).body s d w' := by
  intro j hj s d w w' hk hb
  rcases j with _ | _ | _ | _ | _ | _ | _ | _ | _ | _ | _ | _ | _ | _ | _ | j
  · exact hb
  · exact hb
  · exact hb
  · exact hb
  · exact hb
  · exact hb
  · exact hb
  · exact h5t _ _ _ hk hb
  · exact h5t _ _ _ hk hb
  · exact hb
  · exact hb
  · obtain ⟨b, v0, v1, h1, h2, h3⟩ := hb; exact ⟨b, v0, v1, h1, h2, hk.cells h3 (by decide)⟩
  · simp at hj
  · obtain ⟨b, v0, v1, h1, h2, h3, h4⟩ := hb; exact ⟨b, v0, v1, h1, h2, h3, hk.cells h4 (by decide)⟩
  · simp at hj
  · trivial

theorem aska_runS {vl vs vw vq vk vp vr : Value} {BX : Nat} {M : Nat} {K5 : World → Value → Prop} (j : Nat) (hj : j < 15) (h : [11, 13].contains j = true ∨ (factsOf (fl_runS vl vs vw vq vk vp vr BX M K5) j).dones.contains 13 = true) : j = 11 ∨ j = 13 := by
  rcases j with _ | _ | _ | _ | _ | _ | _ | _ | _ | _ | _ | _ | _ | _ | _ | j
  all_goals first | omega | (rcases h with h | h <;> exact absurd (show false = true from h) (by decide))

theorem askb_runS {vl vs vw vq vk vp vr : Value} {BX : Nat} {M : Nat} {K5 : World → Value → Prop} (j : Nat) (hj : j < 15) (h : [12, 14].contains j = true ∨ (factsOf (fl_runS vl vs vw vq vk vp vr BX M K5) j).dones.contains 14 = true) : j = 12 ∨ j = 14 := by
  rcases j with _ | _ | _ | _ | _ | _ | _ | _ | _ | _ | _ | _ | _ | _ | _ | j
  all_goals first | omega | (rcases h with h | h <;> exact absurd (show false = true from h) (by decide))

theorem run_eq' (ms : List Rng) (s : Stt) (who : Int) (rs : List Req) : runOkB ms s who rs = (mapOkB ms && (stOkB s && (inB who 0 2 && (decide (rs.length ≤ 12) && progOkB rs)))) := rfl

set_option maxRecDepth 100000 in
set_option maxHeartbeats 8000000 in
theorem spec_AtmRun : AtmRunF 7 := by
  intro a cap ms s pw ph cw ch who q qc l w hm hc hc' hs hl hq hq'
  have HM := Hid.intro hm
  have HS := Hid.intro hs
  have HL := Hid.intro hl
  have HAK := Hid.intro (fun W h => spec_AtmOk s pw ph cw ch W h)
  have HAO := Hid.intro (fun W h => spec_l4Prog q qc l W h hq hq')
  have HC0 := Hid.intro (fun W h h1 h2 => spec_l4Copy s pw ph cw ch W h h1 h2)
  have HE := Hid.intro (run_eq' ms s who (reqs l))
  have HLN : Hid ((reqs l).length = l.length) := Hid.intro (by simp [reqs])
  clear hm hs hl
  generalize hzz0 : runZ ms s who (reqs l) = z
  have HZZ := Hid.intro hzz0
  clear hzz0
  unfold stV
  unfold stV at HAK HC0
  go_enter Tryz.func7, Tryz.ntmps7
  go_wp2_with fail
  obtain ⟨W0, hW0⟩ : ∃ W0, (((w.alloc (.cells #[.slice pw s.words.length cw, .slice ph s.holds.length ch] 34)).alloc (.cells #[.slice none 0 0, .slice none 0 0] 34)).alloc (.cells #[] 63)) = W0 := ⟨_, rfl⟩
  have hb0 : Below w.heap.size w W0 := by rw [← hW0]; exact (((Below.refl _ w).alloc (Nat.le_refl _) _).alloc (by simp) _).alloc (by simp <;> omega) _
  have h50 : W0.heap[w.heap.size]? = some (.cells #[.slice pw s.words.length cw, .slice ph s.holds.length ch] 34 (0, 0)) := by rw [← hW0]; exact (Below.heap_alloc _ _ _ (by simp <;> omega)).trans ((Below.heap_alloc _ _ _ (by simp)).trans (nw_at _ rfl))
  have h80 : W0.heap[w.heap.size + 1]? = some (.cells #[.slice none 0 0, .slice none 0 0] 34 (0, 0)) := by rw [← hW0]; exact (Below.heap_alloc _ _ _ (by simp)).trans (nw_at _ (by simp))
  have h90 : ORow 63 3 W0 (w.heap.size + 1 + 1) 0 0 (rsCells []) := by rw [← hW0]; exact ⟨#[], nw_at _ (by simp), rfl, Nat.le_refl _, rfl, rfl⟩
  rw [hW0]
  clear hW0
  refine (spec_MapOk a cap ms W0 (HM.out.below hb0) hc hc').mono ?_
  rintro e w1 ⟨rfl, hb1⟩
  have h51 := (hb1.block _ (heap_lt h50)).trans h50
  have h81 := (hb1.block _ (heap_lt h80)).trans h80
  have h91 := h90.of (hb1.block _ h90.lt)
  have hb1' := hb0.trans (hb1.mono hb0.size)
  clear hb1 hb0 h50 h80 h90
  have RET : Hid (∀ W, Below w.heap.size w W → W.heap[w.heap.size + 1]? = some (.cells #[.slice none 0 0, .slice none 0 0] 34 (0, 0)) → runOkB ms s who (reqs l) = false →
      ∃ qw dw qh dh g gc ys, Value.tuple #[.agg #[.slice none 0 0, .slice none 0 0], .slice (some ⟨w.heap.size + 1 + 1, 0, none⟩) 0 0] = .tuple #[.agg #[.slice qw z.1.words.length dw, .slice qh z.1.holds.length dh], .slice g ys.length gc] ∧ rsps ys = z.2 ∧ RunOut w.heap.size ((W.setCell ⟨w.heap.size + 1, 0, none⟩ (.slice none 0 0)).setCell ⟨w.heap.size + 1, 1, none⟩ (.slice none 0 0)) z.1 ys qw dw qh dh g gc ∧ Below w.heap.size w ((W.setCell ⟨w.heap.size + 1, 0, none⟩ (.slice none 0 0)).setCell ⟨w.heap.size + 1, 1, none⟩ (.slice none 0 0))) := by
    refine Hid.intro (fun W hb h8 hno => ?_)
    rw [← HZZ.out, run_no hno]
    refine ⟨none, 0, none, 0, some ⟨w.heap.size + 1 + 1, 0, none⟩, 0, [], rfl, rfl, RunOut.none _, ?_⟩
    exact (hb.setCell (p := ⟨w.heap.size + 1, 0, none⟩) (by simp) _).setCell (p := ⟨w.heap.size + 1, 1, none⟩) (by simp) _
  cases hmo : mapOkB ms
  · have HN := Hid.intro (RET.out w1 hb1' h81 (by rw [HE.out, hmo]; rfl))
    have f0 := heap_free h81 0
    have f1 := heap_free h81 1
    have r0 : w1.cell? ⟨w.heap.size + 1, 0, none⟩ = some (.slice none 0 0) := heap_cell h81 0
    have r1 : w1.cell? ⟨w.heap.size + 1, 1, none⟩ = some (.slice none 0 0) := heap_cell h81 1
    have p8 := set2 h81 (.slice none 0 0) (.slice none 0 0)
    have s0 := heap_cell p8 0
    have s1 := heap_cell p8 1
    simp at s0 s1
    clear p8 h81 RET
    go_wp2
    refine bodyPost_ret (v := .tuple #[.agg #[.slice none 0 0, .slice none 0 0], .slice (some ⟨w.heap.size + 1 + 1, 0, none⟩) 0 0]) (by simp [results, Tryz.results7, go_sem, s0, s1]) rfl ?_
    obtain ⟨qw, dw, qh, dh, g, gc, ys, h1, h2, h3, h4⟩ := HN.out
    exact ⟨qw, dw, qh, dh, g, gc, ys, by rw [h1], h2, h3, h4⟩
  have c0 : w1.cell? ⟨w.heap.size, 0, none⟩ = some (.slice pw s.words.length cw) := heap_cell h51 0
  have c1 : w1.cell? ⟨w.heap.size, 1, none⟩ = some (.slice ph s.holds.length ch) := heap_cell h51 1
  go_wp2_with fail
  refine (HAK.out w1 (HS.out.below hb1')).mono ?_
  rintro e w2 ⟨rfl, hb2⟩
  have h52 := (hb2.block _ (heap_lt h51)).trans h51
  have h82 := (hb2.block _ (heap_lt h81)).trans h81
  have h92 := h91.of (hb2.block _ h91.lt)
  have hb2' := hb1'.trans (hb2.mono hb1'.size)
  clear hb2 hb1' h51 h81 h91 c0 c1 HAK
  cases hst : stOkB s
  · have HN := Hid.intro (RET.out w2 hb2' h82 (by rw [HE.out, hst]; simp))
    have f0 := heap_free h82 0
    have f1 := heap_free h82 1
    have r0 : w2.cell? ⟨w.heap.size + 1, 0, none⟩ = some (.slice none 0 0) := heap_cell h82 0
    have r1 : w2.cell? ⟨w.heap.size + 1, 1, none⟩ = some (.slice none 0 0) := heap_cell h82 1
    have p8 := set2 h82 (.slice none 0 0) (.slice none 0 0)
    have s0 := heap_cell p8 0
    have s1 := heap_cell p8 1
    simp at s0 s1
    clear p8 h82 RET
    go_wp2
    refine bodyPost_ret (v := .tuple #[.agg #[.slice none 0 0, .slice none 0 0], .slice (some ⟨w.heap.size + 1 + 1, 0, none⟩) 0 0]) (by simp [results, Tryz.results7, go_sem, s0, s1]) rfl ?_
    obtain ⟨qw, dw, qh, dh, g, gc, ys, h1, h2, h3, h4⟩ := HN.out
    exact ⟨qw, dw, qh, dh, g, gc, ys, by rw [h1], h2, h3, h4⟩
  cases hin : inB who 0 2
  · have HN := Hid.intro (RET.out w2 hb2' h82 (by rw [HE.out, hin]; simp))
    have f0 := heap_free h82 0
    have f1 := heap_free h82 1
    have r0 : w2.cell? ⟨w.heap.size + 1, 0, none⟩ = some (.slice none 0 0) := heap_cell h82 0
    have r1 : w2.cell? ⟨w.heap.size + 1, 1, none⟩ = some (.slice none 0 0) := heap_cell h82 1
    have p8 := set2 h82 (.slice none 0 0) (.slice none 0 0)
    have s0 := heap_cell p8 0
    have s1 := heap_cell p8 1
    simp at s0 s1
    clear p8 h82 RET
    go_wp2_with (go_at_call 27; refine (in_any _ _ _ _).mono ?_; rintro e w' ⟨rfl, hw⟩; replace hw := hw.symm; subst hw)
    refine bodyPost_ret (v := .tuple #[.agg #[.slice none 0 0, .slice none 0 0], .slice (some ⟨w.heap.size + 1 + 1, 0, none⟩) 0 0]) (by simp [results, Tryz.results7, go_sem, s0, s1]) rfl ?_
    obtain ⟨qw, dw, qh, dh, g, gc, ys, h1, h2, h3, h4⟩ := HN.out
    exact ⟨qw, dw, qh, dh, g, gc, ys, by rw [h1], h2, h3, h4⟩
  by_cases hln : 12 < l.length
  · have hI12 : (12 : Int) < (l.length : Int) := by omega
    have hd12 : decide ((reqs l).length ≤ 12) = false := by rw [HLN.out]; simp; omega
    have HN := Hid.intro (RET.out w2 hb2' h82 (by rw [HE.out, hd12]; simp))
    have f0 := heap_free h82 0
    have f1 := heap_free h82 1
    have r0 : w2.cell? ⟨w.heap.size + 1, 0, none⟩ = some (.slice none 0 0) := heap_cell h82 0
    have r1 : w2.cell? ⟨w.heap.size + 1, 1, none⟩ = some (.slice none 0 0) := heap_cell h82 1
    have p8 := set2 h82 (.slice none 0 0) (.slice none 0 0)
    have s0 := heap_cell p8 0
    have s1 := heap_cell p8 1
    simp at s0 s1
    clear p8 h82 RET
    go_wp2_with (go_at_call 27; refine (in_any _ _ _ _).mono ?_; rintro e w' ⟨rfl, hw⟩; replace hw := hw.symm; subst hw)
    refine bodyPost_ret (v := .tuple #[.agg #[.slice none 0 0, .slice none 0 0], .slice (some ⟨w.heap.size + 1 + 1, 0, none⟩) 0 0]) (by simp [results, Tryz.results7, go_sem, s0, s1]) rfl ?_
    obtain ⟨qw, dw, qh, dh, g, gc, ys, h1, h2, h3, h4⟩ := HN.out
    exact ⟨qw, dw, qh, dh, g, gc, ys, by rw [h1], h2, h3, h4⟩
  have hI12 : ¬ (12 : Int) < (l.length : Int) := by omega
  have hd12 : decide ((reqs l).length ≤ 12) = true := by rw [HLN.out]; simp; omega
  go_wp2_with (go_at_call 27; refine (in_any _ _ _ _).mono ?_; rintro e w' ⟨rfl, hw⟩; replace hw := hw.symm; subst hw)
  refine (HAO.out w2 (HL.out.below hb2')).mono ?_
  rintro e w3 ⟨rfl, hb3⟩
  have h53 := (hb3.block _ (heap_lt h52)).trans h52
  have h83 := (hb3.block _ (heap_lt h82)).trans h82
  have h93 := h92.of (hb3.block _ h92.lt)
  have hb3' := hb2'.trans (hb3.mono hb2'.size)
  clear hb3 hb2' h52 h82 h92 HAO
  cases hpk : progOkB (reqs l)
  · have HN := Hid.intro (RET.out w3 hb3' h83 (by rw [HE.out, hpk]; simp))
    have f0 := heap_free h83 0
    have f1 := heap_free h83 1
    have r0 : w3.cell? ⟨w.heap.size + 1, 0, none⟩ = some (.slice none 0 0) := heap_cell h83 0
    have r1 : w3.cell? ⟨w.heap.size + 1, 1, none⟩ = some (.slice none 0 0) := heap_cell h83 1
    have p8 := set2 h83 (.slice none 0 0) (.slice none 0 0)
    have s0 := heap_cell p8 0
    have s1 := heap_cell p8 1
    simp at s0 s1
    clear p8 h83 RET
    go_wp2
    refine bodyPost_ret (v := .tuple #[.agg #[.slice none 0 0, .slice none 0 0], .slice (some ⟨w.heap.size + 1 + 1, 0, none⟩) 0 0]) (by simp [results, Tryz.results7, go_sem, s0, s1]) rfl ?_
    obtain ⟨qw, dw, qh, dh, g, gc, ys, h1, h2, h3, h4⟩ := HN.out
    exact ⟨qw, dw, qh, dh, g, gc, ys, by rw [h1], h2, h3, h4⟩
  have HOK : Hid (runOkB ms s who (reqs l) = true) := Hid.intro (by rw [HE.out, hmo, hst, hin, hd12, hpk]; rfl)
  have HPK := Hid.intro hpk
  have HST := Hid.intro hst
  have HMO := Hid.intro hmo
  have HIN := Hid.intro hin
  obtain ⟨hlw, hlh⟩ : s.words.length ≤ 100000 ∧ s.holds.length ≤ 100000 := by
    have := (stOk_iff s).1 hst
    exact ⟨by omega, by omega⟩
  have HH6 : Hid (s.holds.length = 6) := Hid.intro ((stOk_iff s).1 hst).2.1
  clear hmo hd12 hpk RET HE hst hin
  have c0 : w3.cell? ⟨w.heap.size, 0, none⟩ = some (.slice pw s.words.length cw) := heap_cell h53 0
  have c1 : w3.cell? ⟨w.heap.size, 1, none⟩ = some (.slice ph s.holds.length ch) := heap_cell h53 1
  go_wp2_with fail
  refine (HC0.out w3 (HS.out.below hb3') hlw hlh).mono ?_
  rintro e w4 ⟨g1, d1, g2, d2, rfl, o1, l1, m1, o2, l2, m2, a1, a2, a3, hb4⟩
  have h84 := (hb4.block _ (heap_lt h83)).trans h83
  have h94 := h93.of (hb4.block _ h93.lt)
  have hb4' := hb3'.trans (hb4.mono hb3'.size)
  have hs3 := hb3'.size
  have hs4 := hb4'.size
  have hl84 := heap_lt h84
  have hl94 := h94.lt
  have hne := a3 (fun e => by have hh6 := HH6.out; rw [e] at hh6; simp at hh6)
  clear hb4 hb3' h53 h83 h93 c0 c1 HC0 a3
  have HINV : Hid (∀ W, W = w4.alloc (.cells #[.slice (some ⟨g1, 0, none⟩) s.words.length d1, .slice (some ⟨g2, 0, none⟩) s.holds.length d2] 34) → SpcInv w (w.heap.size + 1) w4.heap.size ms who s l 0 [] (w.heap.size + 1 + 1) 0 s (some ⟨g1, 0, none⟩) d1 (some ⟨g2, 0, none⟩) d2 W) := by
    refine Hid.intro (fun W hW => ?_)
    subst hW
    have hg := below_nw w4 (.cells #[.slice (some ⟨g1, 0, none⟩) s.words.length d1, .slice (some ⟨g2, 0, none⟩) s.holds.length d2] 34)
    refine ⟨hb4'.trans (hg.mono hs4), hg.cells h84, nw_at _ rfl, rfl, .inr ⟨g1, rfl, by omega, o1.gr hg⟩, .inr ⟨g2, rfl, by omega, o2.gr hg⟩, l1, m1, l2, m2, .inr (.inr (fun e => hne (by cases e; rfl))), fun _ h => by simp at h, fun _ h => by simp at h, rfl, rfl, h94.gr hg, by unfold maxLen; omega, DataOk.nil _ _, by omega, by omega, by omega, by omega⟩
  clear h84 h94 o1 o2 l1 l2 m1 m2
  go_wp2_with fail
  generalize hW4 : w4.alloc (.cells #[.slice (some ⟨g1, 0, none⟩) s.words.length d1, .slice (some ⟨g2, 0, none⟩) s.holds.length d2] 34) = W4
  have HI0 := Hid.intro (HINV.out W4 hW4.symm)
  clear hW4 HINV hb4' hs3 hs4 hl84 hl94 a1 a2 hne hlw hlh HH6
  generalize w4.heap.size = BX at HI0 ⊢
  generalize hG0 : w.heap.size + 1 + 1 = g0 at HI0 ⊢
  go_loopw [12, 10] (fun i t wr => ∃ (k : Nat) (ys : List Rs) (g cp : Nat) (st : Stt) (qw qh : Option Addr) (dw dh : Nat), k ≤ l.length ∧ i = .int .i64 k ∧ t = .slice (some ⟨g, 0, none⟩) k cp ∧ Hid (SpcInv w (w.heap.size + 1) BX ms who s l k ys g cp st qw dw qh dh wr)) (fun i _ _ => l.length - (intOf i).toNat)
  case atStart => exact ⟨0, [], g0, 0, s, _, _, _, _, Nat.zero_le _, rfl, rfl, HI0⟩
  case round =>
    obtain ⟨k, ys, g, cp, st, qw, qh, dw, dh, hk, rfl, rfl, HV⟩ := hrel
    clear HI0 hG0
    by_cases hlt : k < l.length
    · have hp := HL.out.below HV.out.bel
      have HQ := Hid.intro (hp.ats _ (List.getElem_mem hlt))
      have HQR := Hid.intro hp
      rcases hp.row with hx | ⟨b, off, rfl, hb, hcells⟩
      · subst hx; simp at hlt
      have hk0 : (0 : Int) ≤ (k : Int) := by omega
      have hk1 : (k : Int) < (l.length : Int) := by omega
      have hcs := hcells k hlt
      have HOKK : Hid (atmOkB ms st who l[k].r = true) := by
        refine Hid.intro ?_
        have h1 := run_ok HMO.out HIN.out HST.out (prog_take k HPK.out)
        rw [← HV.out.st_eq] at h1
        simp only [atmOkB, HMO.out, h1, HIN.out, prog_at hlt HPK.out, Bool.and_self]
      have HQX := Hid.intro HQ.out
      obtain ⟨rk, hrk⟩ : ∃ rk, rk = l[k] := ⟨_, rfl⟩
      have HRK := Hid.intro hrk
      rw [← hrk] at hcs HOKK HQX
      clear HQ hcells hp
      obtain ⟨r, pd, cd, pl, cl⟩ := rk
      simp only at hcs HOKK HQX
      obtain ⟨zs, x, hz⟩ : ∃ zs x, atmDo ms st who r = (zs, x) := ⟨_, _, rfl⟩
      have HZ := Hid.intro hz
      have HQC : Hid (∀ W, Below wr.heap.size wr W → _ ∧ _ ∧ _ ∧ _ ∧ _ ∧ _ ∧ _) := Hid.intro (fun W hW => ⟨(hW.cell (p := ⟨b, _, none⟩) hb).trans hcs.1, (hW.cell (p := ⟨b, _, none⟩) hb).trans hcs.2.1, (hW.cell (p := ⟨b, _, none⟩) hb).trans hcs.2.2.1, (hW.cell (p := ⟨b, _, none⟩) hb).trans hcs.2.2.2.1, (hW.cell (p := ⟨b, _, none⟩) hb).trans hcs.2.2.2.2.1, (hW.cell (p := ⟨b, _, none⟩) hb).trans hcs.2.2.2.2.2.1, (hW.cell (p := ⟨b, _, none⟩) hb).trans hcs.2.2.2.2.2.2⟩)
      have HX := Hid.intro HV.out.bx
      have hlX := heap_lt HX.out
      have HSTT := Hid.intro HV.out.at
      have hbs := HV.out.bel.size
      have HMW := Hid.intro (HM.out.below HV.out.bel)
      obtain ⟨K5, hK5⟩ : ∃ K5 : World → Value → Prop, K5 = kOut wr.heap.size zs x := ⟨_, rfl⟩
      have h5g : ∀ w w' v, Gr w w' → K5 w v → K5 w' v := by rw [hK5]; exact kOut_gr
      have h5ta : ∀ w w' v, KT 34 w w' → K5 w v → K5 w' v := by rw [hK5]; exact kOut_kt (by decide)
      have h5tb : ∀ w w' v, KT 63 w w' → K5 w v → K5 w' v := by rw [hK5]; exact kOut_kt (by decide)
      have h5t : ∀ W v, K5 W v → ∃ va vb, v = .tuple #[va, vb] := by rw [hK5]; exact kOut_t
      have h5s : ∀ W v, K5 W v → ∃ p0 n0 k0 p1 n1 k1 v2, v = .tuple #[.agg #[.slice p0 n0 k0, .slice p1 n1 k1], v2] := by rw [hK5]; exact kOut_s
      have h5x : ∀ W v, K5 W v → ∃ va i0 i1 p2 n2 k2, v = .tuple #[va, .agg #[.int .i64 i0, .int .i64 i1, .slice p2 n2 k2]] := by rw [hK5]; exact kOut_x
      have HDO : Hid (∀ W, Below wr.heap.size wr W → Calls Tryz.prog 30 #[.slice a ms.length cap, .agg #[.slice qw st.words.length dw, .slice qh st.holds.length dh], .int .i64 who, .agg #[.int .i64 r.id, .int .i64 r.kind, .int .i64 r.addr, .int .i64 r.many, .bool r.wrap, .slice pd r.data.length cd, .slice pl r.lanes.length cl]] W fun e w' => (∃ v, e = .returned v ∧ K5 w' v) ∧ Below W.heap.size W w') := by
        refine Hid.intro (fun W hW => ?_)
        have := atmF_at spec_AtmDo ((atmZ_ok HOKK.out).trans HZ.out) (HMW.out.below hW) hc hc' (HSTT.out.below hW) (HQX.out.below hW)
        unfold stV reqV at this
        refine this.mono ?_
        rintro e w' ⟨pw', cw', ph', ch', px', cx', rfl, hO, hb⟩
        exact ⟨⟨_, rfl, by rw [hK5]; exact ⟨pw', cw', ph', ch', px', cx', rfl, ⟨hO.words.mono hW.size, hO.holds.mono hW.size, hO.data.mono hW.size, hO.cw1, hO.cw2, hO.ch1, hO.ch2, hO.cx1, hO.cx2, hO.wh, hO.wx, hO.hx⟩⟩⟩, hb⟩
      have HK5 := Hid.intro hK5
      have HK1 := Hid.intro (And.intro HV.out.cap1 HV.out.len)
      have HROW := Hid.intro HV.out.row
      have HgX := Hid.intro (HV.out.row.nest HV.out.bx (by decide))
      clear hcs hz hK5 HQR hrk
      go_wp2_with fail
      refine wp_region_fl (by kernel_rfl) (fl_runS (.slice a ms.length cap) (.agg #[.slice qw st.words.length dw, .slice qh st.holds.length dh]) (.int .i64 who) (.slice (some ⟨b, off, none⟩) l.length qc) (.int .i64 k) (.pointer (some ⟨b, off + k * 7, none⟩)) (.agg #[.int .i64 r.id, .int .i64 r.kind, .int .i64 r.addr, .int .i64 r.many, .bool r.wrap, .slice pd r.data.length cd, .slice pl r.lanes.length cl]) BX wr.heap.size K5) (fun _ => Below wr.heap.size wr) [50, 51, 52, 53, 54, 55, 56, 57, 49, 58, 59, 13, 14] (by kernel_rfl) (by kernel_rfl) (by kernel_rfl) ?c0 ?looks ?done
      case looks =>
        intro hcl i o ho
        rcases i with _ | _ | _ | _ | _ | _ | _ | _ | _ | _ | _ | _ | _ | _ | _ | i
        · simp at ho; subst ho
          refine fo_det (st_runS (.slice a ms.length cap) (.agg #[.slice qw st.words.length dw, .slice qh st.holds.length dh]) (.int .i64 who) (.slice (some ⟨b, off, none⟩) l.length qc) (.int .i64 k) (.pointer (some ⟨b, off + k * 7, none⟩)) (.agg #[.int .i64 r.id, .int .i64 r.kind, .int .i64 r.addr, .int .i64 r.many, .bool r.wrap, .slice pd r.data.length cd, .slice pl r.lanes.length cl]) BX wr.heap.size K5 h5g) hcl rfl rfl rfl rfl (by kernel_rfl) (fun _ _ h => h) (fun done ρ W hat => ?_)
          have e0 : ρ (.tmp 0) = (.slice a ms.length cap) := hat.out 0 (by kernel_rfl)
          have hC := hat.cls
          have hc := hat.con
          simp only [execOp, e0]
          go_simp
        · simp at ho; subst ho
          refine fo_det (st_runS (.slice a ms.length cap) (.agg #[.slice qw st.words.length dw, .slice qh st.holds.length dh]) (.int .i64 who) (.slice (some ⟨b, off, none⟩) l.length qc) (.int .i64 k) (.pointer (some ⟨b, off + k * 7, none⟩)) (.agg #[.int .i64 r.id, .int .i64 r.kind, .int .i64 r.addr, .int .i64 r.many, .bool r.wrap, .slice pd r.data.length cd, .slice pl r.lanes.length cl]) BX wr.heap.size K5 h5g) hcl rfl rfl rfl rfl (by kernel_rfl) (fun _ _ h => h) (fun done ρ W hat => ?_)
          have e11 : ρ (.tmp 11) = .pointer (some ⟨BX, 0, none⟩) := hat.out 11 (by kernel_rfl)
          have hC := hat.cls
          have hbx := (hC.block _ hlX).trans HX.out
          have c0 := (heap_cell hbx 0).trans rfl
          have c1 := (heap_cell hbx 1).trans rfl
          have hc := hat.con
          simp only [execOp, e11]
          go_simp
        · simp at ho; subst ho
          refine fo_det (st_runS (.slice a ms.length cap) (.agg #[.slice qw st.words.length dw, .slice qh st.holds.length dh]) (.int .i64 who) (.slice (some ⟨b, off, none⟩) l.length qc) (.int .i64 k) (.pointer (some ⟨b, off + k * 7, none⟩)) (.agg #[.int .i64 r.id, .int .i64 r.kind, .int .i64 r.addr, .int .i64 r.many, .bool r.wrap, .slice pd r.data.length cd, .slice pl r.lanes.length cl]) BX wr.heap.size K5 h5g) hcl rfl rfl rfl rfl (by kernel_rfl) (fun _ _ h => h) (fun done ρ W hat => ?_)
          have e2 : ρ (.tmp 2) = (.int .i64 who) := hat.out 2 (by kernel_rfl)
          have hC := hat.cls
          have hc := hat.con
          simp only [execOp, e2]
          go_simp
        · simp at ho; subst ho
          refine fo_det (st_runS (.slice a ms.length cap) (.agg #[.slice qw st.words.length dw, .slice qh st.holds.length dh]) (.int .i64 who) (.slice (some ⟨b, off, none⟩) l.length qc) (.int .i64 k) (.pointer (some ⟨b, off + k * 7, none⟩)) (.agg #[.int .i64 r.id, .int .i64 r.kind, .int .i64 r.addr, .int .i64 r.many, .bool r.wrap, .slice pd r.data.length cd, .slice pl r.lanes.length cl]) BX wr.heap.size K5 h5g) hcl rfl rfl rfl rfl (by kernel_rfl) (fun _ _ h => h) (fun done ρ W hat => ?_)
          have e3 : ρ (.tmp 3) = (.slice (some ⟨b, off, none⟩) l.length qc) := hat.out 3 (by kernel_rfl)
          have hC := hat.cls
          have hc := hat.con
          simp only [execOp, e3]
          go_simp
        · simp at ho; subst ho
          refine fo_det (st_runS (.slice a ms.length cap) (.agg #[.slice qw st.words.length dw, .slice qh st.holds.length dh]) (.int .i64 who) (.slice (some ⟨b, off, none⟩) l.length qc) (.int .i64 k) (.pointer (some ⟨b, off + k * 7, none⟩)) (.agg #[.int .i64 r.id, .int .i64 r.kind, .int .i64 r.addr, .int .i64 r.many, .bool r.wrap, .slice pd r.data.length cd, .slice pl r.lanes.length cl]) BX wr.heap.size K5 h5g) hcl rfl rfl rfl rfl (by kernel_rfl) (fun _ _ h => h) (fun done ρ W hat => ?_)
          have e12 : ρ (.tmp 12) = (.int .i64 k) := hat.out 12 (by kernel_rfl)
          have hC := hat.cls
          have hc := hat.con
          simp only [execOp, e12]
          go_simp
        · simp at ho; subst ho
          refine fo_det (st_runS (.slice a ms.length cap) (.agg #[.slice qw st.words.length dw, .slice qh st.holds.length dh]) (.int .i64 who) (.slice (some ⟨b, off, none⟩) l.length qc) (.int .i64 k) (.pointer (some ⟨b, off + k * 7, none⟩)) (.agg #[.int .i64 r.id, .int .i64 r.kind, .int .i64 r.addr, .int .i64 r.many, .bool r.wrap, .slice pd r.data.length cd, .slice pl r.lanes.length cl]) BX wr.heap.size K5 h5g) hcl rfl rfl rfl rfl (by kernel_rfl) (fun _ _ h => h) (fun done ρ W hat => ?_)
          have e53 : ρ (.tmp 53) = (.slice (some ⟨b, off, none⟩) l.length qc) := fIs_at (d := 53) (v := (.slice (some ⟨b, off, none⟩) l.length qc)) (hat.fact 3 (by kernel_rfl))
          have e54 : ρ (.tmp 54) = (.int .i64 k) := fIs_at (d := 54) (v := (.int .i64 k)) (hat.fact 4 (by kernel_rfl))
          have hC := hat.cls
          have hc := hat.con
          simp only [execOp, e53, e54]
          go_simp
        · simp at ho; subst ho
          refine fo_det (st_runS (.slice a ms.length cap) (.agg #[.slice qw st.words.length dw, .slice qh st.holds.length dh]) (.int .i64 who) (.slice (some ⟨b, off, none⟩) l.length qc) (.int .i64 k) (.pointer (some ⟨b, off + k * 7, none⟩)) (.agg #[.int .i64 r.id, .int .i64 r.kind, .int .i64 r.addr, .int .i64 r.many, .bool r.wrap, .slice pd r.data.length cd, .slice pl r.lanes.length cl]) BX wr.heap.size K5 h5g) hcl rfl rfl rfl rfl (by kernel_rfl) (fun _ _ h => h) (fun done ρ W hat => ?_)
          have e55 : ρ (.tmp 55) = (.pointer (some ⟨b, off + k * 7, none⟩)) := fIs_at (d := 55) (v := (.pointer (some ⟨b, off + k * 7, none⟩))) (hat.fact 5 (by kernel_rfl))
          have hC := hat.cls
          obtain ⟨g0, g1, g2, g3, g4, g5, g6⟩ := HQC.out W hC
          have hc := hat.con
          simp only [execOp, e55]
          go_simp
        · simp at ho; subst ho
          refine fo_grow (st_runS (.slice a ms.length cap) (.agg #[.slice qw st.words.length dw, .slice qh st.holds.length dh]) (.int .i64 who) (.slice (some ⟨b, off, none⟩) l.length qc) (.int .i64 k) (.pointer (some ⟨b, off + k * 7, none⟩)) (.agg #[.int .i64 r.id, .int .i64 r.kind, .int .i64 r.addr, .int .i64 r.many, .bool r.wrap, .slice pd r.data.length cd, .slice pl r.lanes.length cl]) BX wr.heap.size K5 h5g) hcl rfl rfl (fun done ρ W hat => ?_)
          have e50 : ρ (.tmp 50) = (.slice a ms.length cap) := fIs_at (d := 50) (v := (.slice a ms.length cap)) (hat.fact 0 (by kernel_rfl))
          have e51 : ρ (.tmp 51) = (.agg #[.slice qw st.words.length dw, .slice qh st.holds.length dh]) := fIs_at (d := 51) (v := (.agg #[.slice qw st.words.length dw, .slice qh st.holds.length dh])) (hat.fact 1 (by kernel_rfl))
          have e52 : ρ (.tmp 52) = (.int .i64 who) := fIs_at (d := 52) (v := (.int .i64 who)) (hat.fact 2 (by kernel_rfl))
          have e56 : ρ (.tmp 56) = (.agg #[.int .i64 r.id, .int .i64 r.kind, .int .i64 r.addr, .int .i64 r.many, .bool r.wrap, .slice pd r.data.length cd, .slice pl r.lanes.length cl]) := fIs_at (d := 56) (v := (.agg #[.int .i64 r.id, .int .i64 r.kind, .int .i64 r.addr, .int .i64 r.many, .bool r.wrap, .slice pd r.data.length cd, .slice pl r.lanes.length cl])) (hat.fact 6 (by kernel_rfl))
          have hC := hat.cls
          have hf := hat.fn
          refine up_call 30 #[.slice a ms.length cap, .agg #[.slice qw st.words.length dw, .slice qh st.holds.length dh], .int .i64 who, .agg #[.int .i64 r.id, .int .i64 r.kind, .int .i64 r.addr, .int .i64 r.many, .bool r.wrap, .slice pd r.data.length cd, .slice pl r.lanes.length cl]] (by simp only [execOp]; go_simp) ?_
          refine (HDO.out W hC).mono ?_
          rintro e W1 ⟨⟨v, rfl, hKv⟩, hb⟩
          exact ⟨v, rfl, hC.trans (hb.mono hC.size), hb, fK_mk (by rw [updV_same]; exact hKv), free_spec (by kernel_rfl) hat.lt⟩
        · simp at ho; subst ho
          refine fo_grow (st_runS (.slice a ms.length cap) (.agg #[.slice qw st.words.length dw, .slice qh st.holds.length dh]) (.int .i64 who) (.slice (some ⟨b, off, none⟩) l.length qc) (.int .i64 k) (.pointer (some ⟨b, off + k * 7, none⟩)) (.agg #[.int .i64 r.id, .int .i64 r.kind, .int .i64 r.addr, .int .i64 r.many, .bool r.wrap, .slice pd r.data.length cd, .slice pl r.lanes.length cl]) BX wr.heap.size K5 h5g) hcl rfl rfl (fun done ρ W hat => ?_)
          have hC := hat.cls
          have hK : K5 W (ρ (.tmp 57)) := (fK_at (d := 57) (K := K5) (hat.fact 7 (by kernel_rfl)))
          refine up_val (ρ (.tmp 57)) W (by simp only [execOp]; go_simp) ⟨hC, Gr.refl _, fK_mk (by rw [updV_same]; exact hK), free_spec (by kernel_rfl) hat.lt⟩
        · simp at ho; subst ho
          refine fo_grow (st_runS (.slice a ms.length cap) (.agg #[.slice qw st.words.length dw, .slice qh st.holds.length dh]) (.int .i64 who) (.slice (some ⟨b, off, none⟩) l.length qc) (.int .i64 k) (.pointer (some ⟨b, off + k * 7, none⟩)) (.agg #[.int .i64 r.id, .int .i64 r.kind, .int .i64 r.addr, .int .i64 r.many, .bool r.wrap, .slice pd r.data.length cd, .slice pl r.lanes.length cl]) BX wr.heap.size K5 h5g) hcl rfl rfl (fun done ρ W hat => ?_)
          have hC := hat.cls
          have hK : K5 W (ρ (.tmp 49)) := (fK_at (d := 49) (K := K5) (hat.fact 8 (by kernel_rfl)))
          obtain ⟨va, vb, em⟩ := h5t _ _ hK
          refine up_val va W (by simp only [execOp]; go_simp) ⟨hC, Gr.refl _, ⟨vb, ?_⟩, free_spec (by kernel_rfl) hat.lt⟩
          exact em
        · simp at ho; subst ho
          refine fo_grow (st_runS (.slice a ms.length cap) (.agg #[.slice qw st.words.length dw, .slice qh st.holds.length dh]) (.int .i64 who) (.slice (some ⟨b, off, none⟩) l.length qc) (.int .i64 k) (.pointer (some ⟨b, off + k * 7, none⟩)) (.agg #[.int .i64 r.id, .int .i64 r.kind, .int .i64 r.addr, .int .i64 r.many, .bool r.wrap, .slice pd r.data.length cd, .slice pl r.lanes.length cl]) BX wr.heap.size K5 h5g) hcl rfl rfl (fun done ρ W hat => ?_)
          have hC := hat.cls
          have hK : K5 W (ρ (.tmp 49)) := (fK_at (d := 49) (K := K5) (hat.fact 8 (by kernel_rfl)))
          obtain ⟨va, vb, em⟩ := h5t _ _ hK
          refine up_val vb W (by simp only [execOp]; go_simp) ⟨hC, Gr.refl _, ⟨va, ?_⟩, free_spec (by kernel_rfl) hat.lt⟩
          exact em
        · simp at ho; subst ho
          refine fo_grow (st_runS (.slice a ms.length cap) (.agg #[.slice qw st.words.length dw, .slice qh st.holds.length dh]) (.int .i64 who) (.slice (some ⟨b, off, none⟩) l.length qc) (.int .i64 k) (.pointer (some ⟨b, off + k * 7, none⟩)) (.agg #[.int .i64 r.id, .int .i64 r.kind, .int .i64 r.addr, .int .i64 r.many, .bool r.wrap, .slice pd r.data.length cd, .slice pl r.lanes.length cl]) BX wr.heap.size K5 h5g) hcl rfl rfl (fun done ρ W hat => ?_)
          have hC := hat.cls
          refine up_val (.pointer (some ⟨W.heap.size, 0, none⟩)) (W.alloc (.cells #[.slice none 0 0, .slice none 0 0] 34)) (by simp only [execOp]; go_simp) ⟨hC.trans ((below_nw _ _).mono hC.size), below_nw _ _, ⟨W.heap.size, _, _, ?_, hC.size, nw_at _ rfl⟩, free_spec (by kernel_rfl) hat.lt⟩
          exact rfl
        · simp at ho; subst ho
          refine fo_grow (st_runS (.slice a ms.length cap) (.agg #[.slice qw st.words.length dw, .slice qh st.holds.length dh]) (.int .i64 who) (.slice (some ⟨b, off, none⟩) l.length qc) (.int .i64 k) (.pointer (some ⟨b, off + k * 7, none⟩)) (.agg #[.int .i64 r.id, .int .i64 r.kind, .int .i64 r.addr, .int .i64 r.many, .bool r.wrap, .slice pd r.data.length cd, .slice pl r.lanes.length cl]) BX wr.heap.size K5 h5g) hcl rfl rfl (fun done ρ W hat => ?_)
          have hC := hat.cls
          refine up_val (.pointer (some ⟨W.heap.size, 0, none⟩)) (W.alloc (.cells #[.int .i64 0, .int .i64 0, .slice none 0 0] 63)) (by simp only [execOp]; go_simp) ⟨hC.trans ((below_nw _ _).mono hC.size), below_nw _ _, ⟨W.heap.size, _, _, _, ?_, hC.size, nw_at _ rfl⟩, free_spec (by kernel_rfl) hat.lt⟩
          exact rfl
        · simp at ho; subst ho
          refine fo_rel (S := KT 34) (E := [11, 13]) (kta_runS (.slice a ms.length cap) (.agg #[.slice qw st.words.length dw, .slice qh st.holds.length dh]) (.int .i64 who) (.slice (some ⟨b, off, none⟩) l.length qc) (.int .i64 k) (.pointer (some ⟨b, off + k * 7, none⟩)) (.agg #[.int .i64 r.id, .int .i64 r.kind, .int .i64 r.addr, .int .i64 r.many, .bool r.wrap, .slice pd r.data.length cd, .slice pl r.lanes.length cl]) BX wr.heap.size K5 h5ta) hcl rfl rfl (fun done ρ W hat => ?_)
          have hC := hat.cls
          have hK : K5 W (ρ (.tmp 49)) := (fK_at (d := 49) (K := K5) (hat.fact 8 (by kernel_rfl)))
          obtain ⟨bb, ex⟩ := hat.fact 9 (by kernel_rfl)
          obtain ⟨b, o0, o1, eb, hMb, hbx⟩ := hat.fact 11 (by kernel_rfl)
          have ex : ρ (.tmp 49) = .tuple #[ρ (.tmp 58), bb] := ex
          have eb : ρ (.tmp 13) = .pointer (some ⟨b, 0, none⟩) := eb
          obtain ⟨p0, n0, k0, p1, n1, k1, v2, ev⟩ := h5s _ _ hK
          rw [ev] at ex
          simp only [Value.tuple.injEq, List.toArray_inj, Array.mk.injEq, List.cons.injEq] at ex
          have ex : ρ (.tmp 58) = .agg #[.slice p0 n0 k0, .slice p1 n1 k1] := ex.1.symm
          have hR1 := heap_set hbx 0 (.slice p0 n0 k0)
          refine up_store2 rfl eb ex hbx ⟨(hC.setCell (p := ⟨b, 0, none⟩) hMb _).setCell (p := ⟨b, 1, none⟩) hMb _, (KT.set hbx _).trans (KT.set hR1 _), ⟨b, _, _, eb, hMb, ex, (heap_set hR1 1 _).trans rfl⟩, fun j hj hcj => ?_⟩
          rcases aska_runS j (hat.lt j hj) hcj with rfl | rfl
          · exact ⟨b, _, _, eb, hMb, (heap_set hR1 1 _).trans rfl⟩
          · rw [hat.new] at hj; cases hj
        · simp at ho; subst ho
          refine fo_rel (S := KT 63) (E := [12, 14]) (ktb_runS (.slice a ms.length cap) (.agg #[.slice qw st.words.length dw, .slice qh st.holds.length dh]) (.int .i64 who) (.slice (some ⟨b, off, none⟩) l.length qc) (.int .i64 k) (.pointer (some ⟨b, off + k * 7, none⟩)) (.agg #[.int .i64 r.id, .int .i64 r.kind, .int .i64 r.addr, .int .i64 r.many, .bool r.wrap, .slice pd r.data.length cd, .slice pl r.lanes.length cl]) BX wr.heap.size K5 h5tb) hcl rfl rfl (fun done ρ W hat => ?_)
          have hC := hat.cls
          have hK : K5 W (ρ (.tmp 49)) := (fK_at (d := 49) (K := K5) (hat.fact 8 (by kernel_rfl)))
          obtain ⟨bb, ex⟩ := hat.fact 10 (by kernel_rfl)
          obtain ⟨b, o0, o1, o2, eb, hMb, hbx⟩ := hat.fact 12 (by kernel_rfl)
          have ex : ρ (.tmp 49) = .tuple #[bb, ρ (.tmp 59)] := ex
          have eb : ρ (.tmp 14) = .pointer (some ⟨b, 0, none⟩) := eb
          obtain ⟨va, i0, i1, p2, n2, k2, ev⟩ := h5x _ _ hK
          rw [ev] at ex
          simp only [Value.tuple.injEq, List.toArray_inj, Array.mk.injEq, List.cons.injEq] at ex
          have ex : ρ (.tmp 59) = .agg #[.int .i64 i0, .int .i64 i1, .slice p2 n2 k2] := ex.2.1.symm
          have hR1 := heap_set hbx 0 (.int .i64 i0)
          have hR2 := heap_set hR1 1 (.int .i64 i1)
          refine up_store3 rfl eb ex hbx ⟨((hC.setCell (p := ⟨b, 0, none⟩) hMb _).setCell (p := ⟨b, 1, none⟩) hMb _).setCell (p := ⟨b, 2, none⟩) hMb _, ((KT.set hbx _).trans (KT.set hR1 _)).trans (KT.set hR2 _), ⟨b, _, _, _, eb, hMb, ex, (heap_set hR2 2 _).trans rfl⟩, fun j hj hcj => ?_⟩
          rcases askb_runS j (hat.lt j hj) hcj with rfl | rfl
          · exact ⟨b, _, _, _, eb, hMb, (heap_set hR2 2 _).trans rfl⟩
          · rw [hat.new] at hj; cases hj
        · simp at ho
      case c0 => exact (Below.refl _ _).drew
      case done =>
        intro f W hC hf hout
        have hK : K5 W (f 49) := fK_at (d := 49) (K := K5) (hf 8 (by decide))
        obtain ⟨vb, ex0⟩ : ∃ b, f 49 = .tuple #[f 58, b] := hf 9 (by decide)
        obtain ⟨va, ex1⟩ : ∃ b, f 49 = .tuple #[b, f 59] := hf 10 (by decide)
        obtain ⟨b0, u0, u1, eb0, hM0, ev0, H0⟩ : ∃ b v0 v1, f 13 = .pointer (some ⟨b, 0, none⟩) ∧ wr.heap.size ≤ b ∧ f 58 = .agg #[v0, v1] ∧ W.heap[b]? = some (.cells #[v0, v1] 34 (0, 0)) := hf 13 (by decide)
        obtain ⟨b1, t0, t1, t2, eb1, hM1, ev1, H1⟩ : ∃ b v0 v1 v2, f 14 = .pointer (some ⟨b, 0, none⟩) ∧ wr.heap.size ≤ b ∧ f 59 = .agg #[v0, v1, v2] ∧ W.heap[b]? = some (.cells #[v0, v1, v2] 63 (0, 0)) := hf 14 (by decide)
        rw [HK5.out] at hK
        obtain ⟨pw', cw', ph', ch', px', cx', eK, hO⟩ := hK
        rw [eK] at ex0 ex1
        simp only [Value.tuple.injEq, List.toArray_inj, Array.mk.injEq, List.cons.injEq] at ex0 ex1
        rw [← ex0.1] at ev0
        rw [← ex1.2.1] at ev1
        cases ev0
        cases ev1
        have hsW := hC.size
        have hl0 := heap_lt H0
        have hl1 := heap_lt H1
        have c00 : W.cell? ⟨b0, 0, none⟩ = some (.slice pw' zs.words.length cw') := heap_cell H0 0
        have c01 : W.cell? ⟨b0, 1, none⟩ = some (.slice ph' zs.holds.length ch') := heap_cell H0 1
        have hXW := (hC.block _ hlX).trans HX.out
        have x00 := (heap_cell hXW 0).trans rfl
        have x01 := (heap_cell hXW 1).trans rfl
        have xf0 := heap_free hXW 0
        have xf1 := heap_free hXW 1
        have n1X : b1 ≠ BX := by omega
        have HKS := Hid.intro (set2_kept W BX (.slice pw' zs.words.length cw') (.slice ph' zs.holds.length ch'))
        have H1s := (HKS.out.block b1 hl1 n1X).trans H1
        have y00 := (heap_cell H1s 0).trans rfl
        have y01 := (heap_cell H1s 1).trans rfl
        have y02 := (heap_cell H1s 2).trans rfl
        have hrS := HROW.out.of ((HKS.out.block g (by have := HROW.out.lt; omega) HgX.out).trans (hC.block g HROW.out.lt))
        have hbn := below_nw ((W.setCell ⟨BX, 0, none⟩ (.slice pw' zs.words.length cw')).setCell ⟨BX, 1, none⟩ (.slice ph' zs.holds.length ch')) (.cells #[.int .i64 x.id, .int .i64 x.code, .slice px' x.data.length cx'] 63)
        have hrN := Hid.intro (hrS.gr hbn)
        have HBN := Hid.intro hbn
        have hYc := Hid.intro (show (((W.setCell ⟨BX, 0, none⟩ (.slice pw' zs.words.length cw')).setCell ⟨BX, 1, none⟩ (.slice ph' zs.holds.length ch')).alloc (.cells #[.int .i64 x.id, .int .i64 x.code, .slice px' x.data.length cx'] 63)).heap[((W.setCell ⟨BX, 0, none⟩ (.slice pw' zs.words.length cw')).setCell ⟨BX, 1, none⟩ (.slice ph' zs.holds.length ch')).heap.size]? = some (.cells #[.int .i64 x.id, .int .i64 x.code, .slice px' x.data.length cx'] 63 (0, 0)) from nw_at _ rfl)
        have HO := Hid.intro hO
        have HCW := Hid.intro hC
        clear hf hout hC hO ex0 ex1 eK H0 H1 H1s hrS hbn h5g h5ta h5tb h5t h5s h5x HDO HK5 hXW
        simp only [World.size_setCell] at hYc
        simp only [fill, eb0, eb1]
        go_simp
        go_wp2_with (at_builtin; refine wpList_appR ys ⟨x, px', cx'⟩ rfl rfl rfl HK1.out.2.symm hrN.out HK1.out.1 rfl hYc.out (by omega) ?_; intro g' cp' w6 hr6 hcp6 hg6 hG6; have HR6 := Hid.intro (And.intro hr6 (And.intro hcp6 (And.intro hg6 hG6))); clear hr6 hcp6 hg6 hG6 hrN hYc)
        go_roundw
        case rel =>
          obtain ⟨r1, r2, r3, r4⟩ := HR6.out
          exact ⟨k + 1, ys ++ [⟨x, px', cx'⟩], g', cp', zs, pw', ph', cw', ch', by omega, by go_num, rfl, Hid.intro (HV.out.step hlt HCW.out (by rw [← HRK.out]; exact HZ.out) HO.out HBN.out r1 r2 r3 r4)⟩
        case measure => simp [intOf]; omega
    · have hkl : k = l.length := by omega
      subst hkl
      have hkn : ¬ ((l.length : Int) < (l.length : Int)) := by omega
      have h87 := HV.out.r8
      have hXW := HV.out.bx
      have f0 := heap_free h87 0
      have f1 := heap_free h87 1
      have r0 : wr.cell? ⟨w.heap.size + 1, 0, none⟩ = some (.slice none 0 0) := heap_cell h87 0
      have r1 : wr.cell? ⟨w.heap.size + 1, 1, none⟩ = some (.slice none 0 0) := heap_cell h87 1
      have x0 : wr.cell? ⟨BX, 0, none⟩ = some (.slice qw st.words.length dw) := heap_cell hXW 0
      have x1 : wr.cell? ⟨BX, 1, none⟩ = some (.slice qh st.holds.length dh) := heap_cell hXW 1
      have p8 := set2 h87 (.slice qw st.words.length dw) (.slice qh st.holds.length dh)
      have s0 := heap_cell p8 0
      have s1 := heap_cell p8 1
      simp at s0 s1
      clear p8 h87 hXW
      go_wp2
      refine bodyPost_ret (v := .tuple #[.agg #[.slice qw st.words.length dw, .slice qh st.holds.length dh], .slice (some ⟨g, 0, none⟩) l.length cp]) (by simp [results, Tryz.results7, go_sem, s0, s1]) rfl ?_
      have hv := HV.out
      have hz : z = (runSt ms who s (reqs l), runRs ms who s (reqs l)) := by rw [← HZZ.out, run_yes HOK.out]
      have htk : l.take l.length = l := List.take_length
      have htold := hv.told
      have hst := hv.st_eq
      rw [htk] at htold hst
      have hkp := set2_kept wr (w.heap.size + 1) (.slice qw st.words.length dw) (.slice qh st.holds.length dh)
      have hlen := hv.len
      have hcp := hv.cap1
      have hrc := hv.row
      have hgR := hv.row.nest hv.r8 (by decide)
      have own : ∀ (q : Option Addr) (cq : Nat) (v : List Int), OwnN w.heap.size wr q cq v → OwnN w.heap.size ((wr.setCell ⟨w.heap.size + 1, 0, none⟩ (.slice qw st.words.length dw)).setCell ⟨w.heap.size + 1, 1, none⟩ (.slice qh st.holds.length dh)) q cq v := fun q cq v hq => by
        rcases hq with hq | ⟨b, e, hb, hO⟩
        · exact .inl hq
        · exact .inr ⟨b, e, hb, hO.of (hkp.block b hO.lt (hO.nest hv.r8 (by decide)))⟩
      refine ⟨qw, dw, qh, dh, some ⟨g, 0, none⟩, cp, ys, ?_, ?_, ?_, ?_⟩
      · rw [hz, ← hst, hlen]
      · rw [hz]; exact htold
      · rw [hz, ← hst]
        refine ⟨own _ _ _ hv.words, own _ _ _ hv.holds, hv.cw1, hv.cw2, hv.ch1, hv.ch2, hv.wh, hv.data.of (fun b cp n cs hMb hOb => hkp.block b hOb.lt (hOb.nest hv.r8 (by decide))), hv.wd, hv.hd, .inr ⟨g, rfl, hv.gM, ?_⟩, by have := hrc; obtain ⟨_, _, _, h, _⟩ := this; omega, by unfold maxLen at hcp; omega⟩
        rw [hlen]; exact hrc.of (hkp.block _ hrc.lt hgR)
      · have hb0 := hv.bel.size
        exact hv.bel.trans ⟨hkp.os, hkp.tape, hkp.output, hkp.size, fun b hb => hkp.block b (by omega) (by omega)⟩

end Go.Proofs.YtpamjkkghghggaaGreat

namespace Go.Proofs.YtpamjkkghghggaaGreat
open Go.RowKit
set_option linter.unusedSimpArgs false
set_option linter.unusedVariables false

theorem runF_at {F : Nat} (hF : AtmRunF F) {a : Option Addr} {c : Nat} {ms : List Rng} {s : Stt} {pw ph : Option Addr} {cw ch : Nat} {who : Int} {q : Option Addr} {qc : Nat} (l : List Rq) {rs : List Req} {n : Nat} {W : World} (hl : reqs l = rs) (hn : l.length = n)
    (hM : RowOf W a ms) (xc : ms.length ≤ c) (xm : c ≤ 9223372036854775807) (hS : StAt W s pw cw ph ch) (hQ : RqsAt W q l) (qc1 : n ≤ qc) (qc2 : qc ≤ 9223372036854775807) :
    Calls Tryz.prog F #[.slice a ms.length c, stV s pw cw ph ch, .int .i64 who, .slice q n qc] W fun e w' =>
      ∃ x qw dw qh dh g gc ys, e = .returned (.tuple #[stV x qw dw qh dh, .slice g ys.length gc]) ∧ runZ ms s who rs = (x, rsps ys) ∧ RunOut W.heap.size w' x ys qw dw qh dh g gc ∧ Below W.heap.size W w' := by
  subst hl hn
  refine (hF a c ms s pw ph cw ch who q qc l W hM xc xm hS hQ qc1 qc2).mono ?_
  rintro e w' ⟨qw, dw, qh, dh, g, gc, ys, h1, h2, h3, h4⟩
  exact ⟨_, qw, dw, qh, dh, g, gc, ys, h1, by rw [h2], h3, h4⟩

/-- what came of things, in memory -/
structure RspsAt (w : World) (g : Option Addr) (ys : List Rs) : Prop where
  row : ys = [] ∨ ∃ b, g = some ⟨b, 0, none⟩ ∧ b < w.heap.size ∧ ∀ k (h : k < ys.length),
    w.cell? ⟨b, k * 3, none⟩ = some (.int .i64 ys[k].x.id) ∧ w.cell? ⟨b, k * 3 + 1, none⟩ = some (.int .i64 ys[k].x.code) ∧ w.cell? ⟨b, k * 3 + 2, none⟩ = some (.slice ys[k].p ys[k].x.data.length ys[k].c)
  ats : ∀ y ∈ ys, RspAt w y.x y.p y.c
theorem RspsAt.below {w w' : World} {g : Option Addr} {ys : List Rs} (h : RspsAt w g ys) (hb : Below w.heap.size w w') : RspsAt w' g ys := by
  refine ⟨?_, fun y hy => (h.ats y hy).below hb⟩
  rcases h.row with h | ⟨b, h1, h2, h3⟩
  · exact .inl h
  · refine .inr ⟨b, h1, Nat.lt_of_lt_of_le h2 hb.size, fun k hk => ?_⟩
    obtain ⟨g0, g1, g2⟩ := h3 k hk
    exact ⟨(hb.cell (p := ⟨b, _, none⟩) h2).trans g0, (hb.cell (p := ⟨b, _, none⟩) h2).trans g1, (hb.cell (p := ⟨b, _, none⟩) h2).trans g2⟩
theorem row_rsps {w : World} {b cap n : Nat} {ys : List Rs} (h : ORow 63 3 w b cap n (rsCells ys)) (ha : ∀ y ∈ ys, RspAt w y.x y.p y.c) : RspsAt w (some ⟨b, 0, none⟩) ys :=
  ⟨.inr ⟨b, rfl, h.lt, fun k hk => ⟨h.get _ _ (rsCells_at ys k hk).1, h.get _ _ (rsCells_at ys k hk).2.1, h.get _ _ (rsCells_at ys k hk).2.2⟩⟩, ha⟩
theorem RunOut.rsps {M : Nat} {w : World} {s : Stt} {ys : List Rs} {pw ph g : Option Addr} {cw ch gc : Nat} (h : RunOut M w s ys pw cw ph ch g gc) : RspsAt w g ys := by
  rcases h.row with h0 | ⟨b, rfl, _, hr⟩
  · exact ⟨.inl h0, h.data.at⟩
  · exact row_rsps hr h.data.at
theorem RunOut.mono {M M' : Nat} {w : World} {s : Stt} {ys : List Rs} {pw ph g : Option Addr} {cw ch gc : Nat} (h : RunOut M w s ys pw cw ph ch g gc) (hM : M' ≤ M) : RunOut M' w s ys pw cw ph ch g gc :=
  ⟨h.words.mono hM, h.holds.mono hM, h.cw1, h.cw2, h.ch1, h.ch2, h.wh, h.data.mono hM, h.wd, h.hd, h.row.imp id (fun ⟨b, e, hb, hO⟩ => ⟨b, e, by omega, hO⟩), h.gc1, h.gc2⟩
theorem RunOut.kt {M : Nat} {w w' : World} {s : Stt} {ys : List Rs} {pw ph g : Option Addr} {cw ch gc : Nat} (h : RunOut M w s ys pw cw ph ch g gc) (hk : KT 34 w w') : RunOut M w' s ys pw cw ph ch g gc := by
  refine ⟨h.words.kt hk (by decide), h.holds.kt hk (by decide), h.cw1, h.cw2, h.ch1, h.ch2, h.wh, h.data.of (fun b cp n cs _ hO => ?_), h.wd, h.hd, h.row.imp id (fun ⟨b, e, hb, hO⟩ => ⟨b, e, hb, hO.kt hk (by decide)⟩), h.gc1, h.gc2⟩
  obtain ⟨cur, e, _⟩ := hO
  rw [e]
  exact hk.cells e (by decide)

/-- what AtmRun answers, as one value -/
def kRun (M : Nat) (zs : Stt) (rs : List Rsp) : World → Value → Prop := fun W v => ∃ qw dw qh dh g gc ys, v = .tuple #[.agg #[.slice qw zs.words.length dw, .slice qh zs.holds.length dh], .slice g ys.length gc] ∧ Go.Proofs.YtpamjkkghghggaaGreat.rsps ys = rs ∧ RunOut M W zs ys qw dw qh dh g gc
theorem kRun_gr {M : Nat} {zs : Stt} {rs : List Rsp} : ∀ w w' v, Gr w w' → kRun M zs rs w v → kRun M zs rs w' v := by
  rintro w w' v hg ⟨qw, dw, qh, dh, g, gc, ys, e, h1, h⟩; exact ⟨qw, dw, qh, dh, g, gc, ys, e, h1, h.below hg⟩
theorem kRun_kt {M : Nat} {zs : Stt} {rs : List Rsp} : ∀ w w' v, KT 34 w w' → kRun M zs rs w v → kRun M zs rs w' v := by
  rintro w w' v hg ⟨qw, dw, qh, dh, g, gc, ys, e, h1, h⟩; exact ⟨qw, dw, qh, dh, g, gc, ys, e, h1, h.kt hg⟩
theorem kRun_t {M : Nat} {zs : Stt} {rs : List Rsp} : ∀ W v, kRun M zs rs W v → ∃ va vb, v = .tuple #[va, vb] := by
  rintro W v ⟨qw, dw, qh, dh, g, gc, ys, e, _⟩; exact ⟨_, _, e⟩
theorem kRun_s {M : Nat} {zs : Stt} {rs : List Rsp} : ∀ W v, kRun M zs rs W v → ∃ p0 n0 k0 p1 n1 k1 v2, v = .tuple #[.agg #[.slice p0 n0 k0, .slice p1 n1 k1], v2] := by
  rintro W v ⟨qw, dw, qh, dh, g, gc, ys, e, _⟩; exact ⟨_, _, _, _, _, _, _, e⟩

theorem RqsAt.take {w : World} {q : Option Addr} {l : List Rq} (h : RqsAt w q l) (j : Nat) : RqsAt w q (l.take j) := by
  refine ⟨?_, fun y hy => h.ats y (List.mem_of_mem_take hy)⟩
  rcases h.row with h | ⟨b, off, h1, h2, h3⟩
  · exact .inl (by simp [h])
  · refine .inr ⟨b, off, h1, h2, fun k hk => ?_⟩
    have hk' : k < l.length := by simp at hk; omega
    have := h3 k hk'
    simpa using this
theorem RqsAt.drop {w : World} {g : Nat} {l : List Rq} (h : RqsAt w (some ⟨g, 0, none⟩) l) (j gc off : Nat) (hc : l.length ≤ gc) (ho : (gc = j → off = 0) ∧ (gc ≠ j → off = j * 7)) : RqsAt w (some ⟨g, off, none⟩) (l.drop j) := by
  refine ⟨?_, fun y hy => h.ats y (List.mem_of_mem_drop hy)⟩
  rcases h.row with h | ⟨b, off', h1, h2, h3⟩
  · exact .inl (by simp [h])
  cases h1
  by_cases hj : l.length ≤ j
  · exact .inl (List.drop_eq_nil_of_le hj)
  have ho' := ho.2 (by omega)
  subst ho'
  refine .inr ⟨g, j * 7, rfl, h2, fun k hk => ?_⟩
  have hk' : j + k < l.length := by simp at hk; omega
  have := h3 (j + k) hk'
  have e : ∀ i, 0 + (j + k) * 7 + i = j * 7 + k * 7 + i := fun i => by omega
  have e0 : 0 + (j + k) * 7 = j * 7 + k * 7 := by omega
  simp only [e, e0] at this
  simpa using this

theorem wpList_want {P : Program} {ops : Array Oper} {Q : Exit → Act → World → Prop} {a : Act} {w : World} {rest : List Oper} {o : Oper} (hw : Region.wanted o (yielded ops a.tmps) = true) (h : o.wp P a w (wpList P ops Q rest) Q) : wpList P ops Q (o :: rest) a w := by
  unfold wpList
  rw [if_pos hw]
  exact .inl h
theorem wpList_appRs {ops : Array Oper} {rest : List Oper} {o : Oper} {a : Act} {Q : Exit → Act → World → Prop} {w : World} {s x g cap n m c : Nat} {p : Option Addr} (ys zs : List Rs) (hg : Region.wanted o (yielded ops a.tmps) = true)
    (ho : o.op = .call { callee := .builtin .append, args := #[.tmp s, .tmp x], argTypes := #[35, 35] })
    (hs : a.eval (.tmp s) = .slice (some ⟨g, 0, none⟩) n cap) (hn : n = ys.length) (hW : ORow 63 3 w g cap n (rsCells ys)) (hcap : cap ≤ maxLen) (hx : a.eval (.tmp x) = .slice p m c) (hm : m = zs.length) (hY : RspsAt w p zs) (hlen : n + m ≤ 100000)
    (h : ∀ g' cap' w', ORow 63 3 w' g' cap' (n + m) (rsCells (ys ++ zs)) → cap' ≤ maxLen → (g' = g ∨ w.heap.size ≤ g') → Grew w w' g → wpList Tryz.prog ops Q rest (a.put o.dst (.slice (some ⟨g', 0, none⟩) (n + m) cap')) w') : wpList Tryz.prog ops Q (o :: rest) a w := by
  obtain ⟨i0, hi, hz0, hz1, hz2⟩ := info_parts Tryz.infoRsp
  refine wpList_want hg ?_
  have happ : ∀ l : List Rs, rsCells (ys ++ l) = rsCells ys ++ rsCells l := fun l => by simp [rsCells]
  have hcl : n ≤ cap := by obtain ⟨_, _, _, h, _⟩ := hW; exact h
  by_cases hz : zs = []
  · subst hz
    have hm0 : m = 0 := by simpa using hm
    subst hm0
    have hrun : (Builtin.append_ #[35, 35] o.type #[.slice (some ⟨g, 0, none⟩) n cap, .slice p 0 c]).run Tryz.prog w = .ok (.slice (some ⟨g, 0, none⟩) n cap) w := by
      cases p with
      | none => simp [Builtin.append_, run_underlying Tryz.underlying35, sizeOf, typeInfo, hi, Builtin.lenOf, Builtin.firstCells, loadCells, loadCellsFrom, hcl, storeCells]
      | some a => simp [Builtin.append_, run_underlying Tryz.underlying35, sizeOf, typeInfo, hi, Builtin.lenOf, Builtin.firstCells, loadCells, loadCellsFrom, hcl, storeCells]
    have e : (execOp a.eval o).run Tryz.prog w = .ok (.value (.slice (some ⟨g, 0, none⟩) n cap)) w := by
      unfold execOp
      simp only [ho, resolve, invoke, builtin, Sem.run_bind, Sem.run_pure, Result.andThen_ok, List.map_toArray, List.map_cons, List.map_nil, hs, hx, hrun]
    unfold Oper.wp
    rw [e]
    exact h g cap w (by simpa using hW) hcap (.inl rfl) ⟨rfl, rfl, rfl, Nat.le_refl _, fun _ _ _ => rfl⟩
  · rcases hY.row with h0 | ⟨b, rfl, hb, hcs⟩
    · exact absurd h0 hz
    obtain ⟨g', cap', w', e, hO, hc', hG, hg', _⟩ := run_append_rows (P := Tryz.prog) (w := w) (ρ := a.eval) (o := o) (xs := rsCells ys) (ys := rsCells zs) 35 63 i0 _ 3 40 Tryz.underlying35 hi hz0 hz1 hz2 rfl (by omega) ho hs hW hx (by rw [rsCells_len, hm]) (fun j u hj => by
        have e1 : ((⟨b, 0, none⟩ : Addr).add j) = ⟨b, j, none⟩ := by unfold Addr.add; split <;> simp_all
        rw [e1]
        have hjl : j < (rsCells zs).length := (List.getElem?_eq_some_iff.1 hj).1
        rw [rsCells_len] at hjl
        obtain ⟨k0, k1, k2⟩ := hcs (j / 3) (by omega)
        obtain ⟨r0, r1, r2⟩ := rsCells_at zs (j / 3) (by omega)
        have h3 : j = j / 3 * 3 ∨ j = j / 3 * 3 + 1 ∨ j = j / 3 * 3 + 2 := by omega
        rcases h3 with h3 | h3 | h3
        · rw [h3] at hj ⊢; rw [r0] at hj; rw [k0, hj]
        · rw [h3] at hj ⊢; rw [r1] at hj; rw [k1, hj]
        · rw [h3] at hj ⊢; rw [r2] at hj; rw [k2, hj]) (by
        intro u hu
        simp only [rsCells, List.mem_flatMap, Rs.cells, List.mem_cons, List.not_mem_nil, or_false] at hu
        obtain ⟨y, _, rfl | rfl | rfl⟩ := hu <;> rfl) hcap (by unfold maxLen; omega) (by omega)
    rw [← happ] at hO
    unfold Oper.wp
    rw [e]
    exact h g' cap' w' hO hc' hg' hG

end Go.Proofs.YtpamjkkghghggaaGreat
