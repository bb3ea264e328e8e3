/-
  ToldOf of the model.
-/
import Derived.Test.YtpjfkimgienkbabRspC
import Derived.Test.YtpjfkimgienkbabKndA
import Derived.Test.YtpjfkimgienkbabToldI
namespace Go.Proofs.Ytpjfkimgienkbab
open Go.RowKit
set_option linter.unusedSimpArgs false
set_option linter.unusedVariables false

def k19_told (N bq oq k g cap lq cq : Nat) (q0 q1 i0 i1 : Int) (dp : Option Addr) (dc : Nat) (d : List Int) (zs : List (Int × Int × (Int × Int × Lst Int))) : World → Value → Prop := fun w v => ∃ g' c' p c, v = .slice (some ⟨g', 0, none⟩) (zs.length + 1) c' ∧ ORow 62 5 w g' c' (zs.length + 1) ((zs ++ [(q0, q1, (i0, i1, (⟨p, c, d⟩ : Lst Int)))]).flatMap yTlmJob.cells) ∧ c' ≤ maxLen ∧ (g' = g ∨ N ≤ g') ∧ Fresh yI N w ⟨p, c, d⟩
def k20_told (N bq oq k g cap lq cq : Nat) (q0 q1 i0 i1 : Int) (dp : Option Addr) (dc : Nat) (d : List Int) (zs : List (Int × Int × (Int × Int × Lst Int))) : World → Value → Prop := fun w v => ∃ g' c' p c, v = .slice (some ⟨g', 0, none⟩) (zs.length + 1) c' ∧ ORow 62 5 w g' c' (zs.length + 1) ((zs ++ [(q0, q1, (i0, i1, (⟨p, c, d⟩ : Lst Int)))]).flatMap yTlmJob.cells) ∧ c' ≤ maxLen ∧ (g' = g ∨ N ≤ g') ∧ Fresh yI N w ⟨p, c, d⟩

def fl_told (N bq oq k g cap lq cq : Nat) (q0 q1 i0 i1 : Int) (dp : Option Addr) (dc : Nat) (d : List Int) (zs : List (Int × Int × (Int × Int × Lst Int))) : List Fact := [
  fIs 21 (.slice (some ⟨g, 0, none⟩) zs.length cap),
  fIs 22 (.slice (some ⟨bq, oq, none⟩) lq cq),
  fIs 23 (.int .i64 (k : Int)),
  fIs 24 (.pointer (some ⟨bq, oq + k * 5, none⟩)),
  fIs 25 (.pointer (some ⟨bq, oq + k * 5, none⟩)),
  fIs 26 (.int .i64 q0),
  fIs 27 (.slice (some ⟨bq, oq, none⟩) lq cq),
  fIs 28 (.int .i64 (k : Int)),
  fIs 29 (.pointer (some ⟨bq, oq + k * 5, none⟩)),
  fIs 30 (.pointer (some ⟨bq, oq + k * 5 + 1, none⟩)),
  fIs 31 (.int .i64 q1),
  fIs 32 (.slice (some ⟨bq, oq, none⟩) lq cq),
  fIs 33 (.int .i64 (k : Int)),
  fIs 34 (.pointer (some ⟨bq, oq + k * 5, none⟩)),
  fIs 35 (.pointer (some ⟨bq, oq + k * 5 + 2, none⟩)),
  fIs 36 (.agg #[.int .i64 i0, .int .i64 i1, .slice dp d.length dc]),
  ⟨[37], [19], fun s d19 w => d19 19 = false → kRspC N i0 i1 d w (s 37)⟩,
  ⟨[38], [19], fun s d19 w => d19 19 = false → ∃ p c, s 38 = .agg #[.int .i64 q0, .int .i64 q1, .int .i64 i0, .int .i64 i1, .slice p d.length c] ∧ Fresh yI N w ⟨p, c, d⟩⟩,
  ⟨[39], [19], fun s d19 w => d19 19 = false → ∃ b p c, s 39 = .slice (some ⟨b, 0, none⟩) 1 1 ∧ N ≤ b ∧ w.heap[b]? = some (.cells #[.int .i64 q0, .int .i64 q1, .int .i64 i0, .int .i64 i1, .slice p d.length c] 62 (0, 0)) ∧ Fresh yI N w ⟨p, c, d⟩⟩,
  fK 40 (k19_told N bq oq k g cap lq cq q0 q1 i0 i1 dp dc d zs),
  fK 5 (k20_told N bq oq k g cap lq cq q0 q1 i0 i1 dp dc d zs)]

theorem st_told (N bq oq k g cap lq cq : Nat) (q0 q1 i0 i1 : Int) (dp : Option Addr) (dc : Nat) (d : List Int) (zs : List (Int × Int × (Int × Int × Lst Int))) : ∀ F ∈ fl_told N bq oq k g cap lq cq q0 q1 i0 i1 dp dc d zs, F.Stab :=
  stab_cons (fIs_stab _ _) <|
  stab_cons (fIs_stab _ _) <|
  stab_cons (fIs_stab _ _) <|
  stab_cons (fIs_stab _ _) <|
  stab_cons (fIs_stab _ _) <|
  stab_cons (fIs_stab _ _) <|
  stab_cons (fIs_stab _ _) <|
  stab_cons (fIs_stab _ _) <|
  stab_cons (fIs_stab _ _) <|
  stab_cons (fIs_stab _ _) <|
  stab_cons (fIs_stab _ _) <|
  stab_cons (fIs_stab _ _) <|
  stab_cons (fIs_stab _ _) <|
  stab_cons (fIs_stab _ _) <|
  stab_cons (fIs_stab _ _) <|
  stab_cons (fIs_stab _ _) <|
  stab_cons (by intro s d w w' hg h hd; exact kRspC_gr hg (h hd)) <|
  stab_cons (by intro s d w w' hg h hd; obtain ⟨p, c, h1, h2⟩ := h hd; exact ⟨p, c, h1, h2.below yI_law hg⟩) <|
  stab_cons (by intro s d w w' hg h hd; obtain ⟨b, p, c, h1, h2, h3, h4⟩ := h hd; exact ⟨b, p, c, h1, h2, hg.cells h3, h4.below yI_law hg⟩) <|
  stab_cons (fK_stab (by rintro w w' v hg ⟨g', c', p, c, h1, h2, h3, h4, h5⟩; exact ⟨g', c', p, c, h1, h2.of (hg.block _ h2.lt), h3, h4, h5.below yI_law hg⟩)) <|
  stab_cons (fK_stab (by rintro w w' v hg ⟨g', c', p, c, h1, h2, h3, h4, h5⟩; exact ⟨g', c', p, c, h1, h2.of (hg.block _ h2.lt), h3, h4, h5.below yI_law hg⟩)) stab_nil

theorem grl_told (N bq oq k g cap lq cq : Nat) (q0 q1 i0 i1 : Int) (dp : Option Addr) (dc : Nat) (d : List Int) (zs : List (Int × Int × (Int × Int × Lst Int))) : ∀ j, [16, 17, 18, 19, 20].contains j = false → ∀ s dd w w', Kept (fun k => k = g) w w' → (factsOf (fl_told N bq oq k g cap lq cq q0 q1 i0 i1 dp dc d zs) j).body s dd w → (factsOf (fl_told N bq oq k g cap lq cq q0 q1 i0 i1 dp dc d zs) j).body s dd w' := by
  intro j hj s d w w' hk hb
  rcases j with _ | _ | _ | _ | _ | _ | _ | _ | _ | _ | _ | _ | _ | _ | _ | _ | _ | _ | _ | _ | _ | j
  all_goals first | exact hb | (exfalso; revert hj; decide) | trivial

theorem asks_told {N bq oq k g cap lq cq : Nat} {q0 q1 i0 i1 : Int} {dp : Option Addr} {dc : Nat} {d : List Int} {zs : List (Int × Int × (Int × Int × Lst Int))} (j : Nat) (hj : j < 21) (h : [16, 17, 18, 19, 20].contains j = true ∨ (factsOf (fl_told N bq oq k g cap lq cq q0 q1 i0 i1 dp dc d zs) j).dones.contains 19 = true) : j = 16 ∨ j = 17 ∨ j = 18 ∨ j = 19 ∨ j = 20 := by
  rcases j with _ | _ | _ | _ | _ | _ | _ | _ | _ | _ | _ | _ | _ | _ | _ | _ | _ | _ | _ | _ | _ | j
  all_goals first | (rcases h with h | h <;> exact absurd (show false = true from h) (by decide)) | omega

/-- what one was told so far: a row of its own, and what came of each in memory of its own -/
structure ToldSs (l : List (Int × Int × (Int × Int × Lst Int))) (who : Int) (w wr : World) (k g c : Nat) (zs : List (Int × Int × (Int × Int × Lst Int))) : Prop where
  pl : zs.map yTlmJob.pl = toldP ((l.take k).map yTlmJob.pl) who
  len : zs.length ≤ k
  row : ORow 62 5 wr g c zs.length (zs.flatMap yTlmJob.cells)
  cap : c ≤ maxLen
  ow : ∀ x ∈ zs, yTlmJob.ow wr x
  bel : Below w.heap.size w wr
  new : w.heap.size ≤ g
/-- a block of ints is no row of jobs -/
theorem ToldSs.ne {l zs : List (Int × Int × (Int × Int × Lst Int))} {who : Int} {w wr : World} {k g c : Nat} (h : ToldSs l who w wr k g c zs) : ∀ x ∈ zs, ∀ b ∈ yTlmJob.foot x, b ≠ g := fun x hx b hb e => by
  obtain ⟨cur, E, hE, h1⟩ := yTlmJob_law.ow_ty (h.ow x hx) b hb
  obtain ⟨cur', h2, _⟩ := h.row
  subst e
  rw [h2] at h1
  injection h1 with h1
  injection h1 with _ h1
  subst h1
  exact absurd hE (by decide)

set_option maxRecDepth 100000 in
set_option maxHeartbeats 4000000 in
theorem spec_ToldOf (a : Lst (Int × Int × (Int × Int × Lst Int))) (who : Int) (w : World) (hr : yTlmJobS.rd w a) (hs : yTlmJobS.size a ≤ 1048576) :
    Calls Try.prog 11 #[yTlmJobS.val a, .int .i64 who] w fun e w' => ∃ a', e = .returned (yTlmJobS.val a') ∧ yTlmJobS.pl a' = toldP (yTlmJobS.pl a) who ∧ yTlmJobS.ow w' a' ∧ Below w.heap.size w w' := by
  obtain ⟨p0, cq, l⟩ := a
  have hl1 : l.length ≤ cq := hr.1
  have hl2 : cq ≤ 9223372036854775807 := hr.2.1
  have hs' : l.length + (l.map yTlmJob.size).sum ≤ 1048576 := hs
  have hl3 : l.length ≤ 1048576 := by omega
  have HR := Hid.intro hr
  have HSZ := Hid.intro hs'
  clear hr hs hs'
  obtain ⟨i0, hi, hz0, hz1, hz2⟩ := info_parts Try.infoTlmJobS
  have HI := Hid.intro (And.intro hi (And.intro hz0 (And.intro hz1 hz2)))
  clear hi hz0 hz1 hz2
  show Calls Try.prog 11 #[.slice p0 l.length cq, .int .i64 who] w _
  go_enter Try.func11, Try.ntmps11
  go_wp2
  have HS0 : Hid (ToldSs l who w (w.alloc (.cells #[] 62)) 0 w.heap.size 0 []) := Hid.intro ⟨rfl, Nat.le_refl _, ⟨#[], nw_k _ rfl, rfl, Nat.le_refl _, rfl, rfl⟩, by unfold maxLen; omega, fun x hx => by simp at hx, nw_below _ _, Nat.le_refl _⟩
  go_loopw [5, 6] (fun o i wr => ∃ (k g c : Nat) (zs : List (Int × Int × (Int × Int × Lst Int))), k ≤ l.length ∧ i = .int .i64 k ∧ o = .slice (some ⟨g, 0, none⟩) zs.length c ∧ Hid (ToldSs l who w wr k g c zs)) (fun _ i _ => l.length - (intOf i).toNat)
  case atStart => exact ⟨0, w.heap.size, 0, [], Nat.zero_le _, rfl, rfl, HS0⟩
  case round =>
    clear HS0
    obtain ⟨k, g, cap, zs, hk, rfl, rfl, HM⟩ := hrel
    by_cases hlt : k < l.length
    · have hbl := HM.out.bel
      have hk0 : (0 : Int) ≤ (k : Int) := by omega
      have hk1 : (k : Int) < (l.length : Int) := by omega
      have hc : ∃ b off, p0 = some ⟨b, off, none⟩ ∧ b < w.heap.size ∧ ∀ (j : Nat) (v : Value), (yTlmJob.cells l[k])[j]? = some v → w.cell? ⟨b, off + k * 5 + j, none⟩ = some v := by
        rcases HR.out.2.2.1 with h0 | ⟨b, off, e, hb, hc⟩
        · have h0 : l = [] := h0
          subst h0; simp at hlt
        · exact ⟨b, off, e, hb, fun j v hv => hc k hlt j v hv⟩
      obtain ⟨bq, oq, hp0, hbq, hc⟩ := hc
      subst hp0
      have hq := HR.out.2.2.2 _ (List.getElem_mem hlt)
      have hstp := toldP_step hlt who
      have hqs : yTlmJob.size l[k] ≤ 1048576 := by have h1 := size_le yTlmJob hlt; have h2 := HSZ.out; omega
      generalize l[k] = q at hc hq hstp hqs
      obtain ⟨q_0, q_1, ⟨q_2_0, q_2_1, q_2_2⟩⟩ := q
      have c0 : wr.cell? ⟨bq, oq + k * 5, none⟩ = some (.int .i64 q_0) := (hbl.cell (p := ⟨bq, oq + k * 5, none⟩) hbq).trans (hc 0 _ rfl)
      by_cases hw : q_0 = who
      rotate_left
      · have HM2 : Hid (ToldSs l who w wr (k + 1) g cap zs) := Hid.intro ⟨by rw [hstp, HM.out.pl]; simp [hw], Nat.le_succ_of_le HM.out.len, HM.out.row, HM.out.cap, HM.out.ow, HM.out.bel, HM.out.new⟩
        clear hc hq hstp hqs HM hbl
        go_wp2
        go_roundw
        case rel => exact ⟨k + 1, g, cap, zs, by omega, by go_num, rfl, HM2⟩
        case measure => simp [intOf]; omega
      have hMK : ∀ W, Keep g wr W → Below w.heap.size w W := fun W h => hbl.trans (h.below HM.out.new hbl.size)
      have hkq : ∀ W, Keep g wr W → W.cell? ⟨bq, oq + k * 5, none⟩ = some (.int .i64 q_0) ∧ W.cell? ⟨bq, oq + k * 5 + 1, none⟩ = some (.int .i64 q_1) ∧ W.cell? ⟨bq, oq + k * 5 + 2, none⟩ = some (.int .i64 q_2_0) ∧ W.cell? ⟨bq, oq + k * 5 + 3, none⟩ = some (.int .i64 q_2_1) ∧ W.cell? ⟨bq, oq + k * 5 + 4, none⟩ = some (.slice q_2_2.p q_2_2.l.length q_2_2.c) := fun W h =>
        have h' := hMK W h
        ⟨(h'.cell (p := ⟨bq, _, none⟩) hbq).trans (hc 0 _ rfl), (h'.cell (p := ⟨bq, _, none⟩) hbq).trans (hc 1 _ rfl), (h'.cell (p := ⟨bq, _, none⟩) hbq).trans (hc 2 _ rfl), (h'.cell (p := ⟨bq, _, none⟩) hbq).trans (hc 3 _ rfl), (h'.cell (p := ⟨bq, _, none⟩) hbq).trans (hc 4 _ rfl)⟩
      have hdl : q_2_2.l.length ≤ 2000000 := by
        have h1 : yTlmJob.size (q_0, q_1, (q_2_0, q_2_1, q_2_2)) = 0 + (0 + (0 + (0 + yI.size q_2_2))) := rfl
        rw [h1, yI_size] at hqs
        omega
      have HL5 : Hid (∀ W, Keep g wr W → Calls Try.prog 29 #[.agg #[.int .i64 q_2_0, .int .i64 q_2_1, .slice q_2_2.p q_2_2.l.length q_2_2.c]] W fun e w' => ∃ p c, e = .returned (.agg #[.int .i64 q_2_0, .int .i64 q_2_1, .slice p q_2_2.l.length c]) ∧ Fresh yI W.heap.size w' ⟨p, c, q_2_2.l⟩ ∧ Below W.heap.size W w') := Hid.intro (fun W h => spec_l5Rsp (q_2_0, q_2_1, q_2_2) W (yRspRsp_law.rd_blw hq.2.2 (hMK W h)) hdl)
      have hgl : g < wr.heap.size := HM.out.row.lt
      have hcap := HM.out.cap
      have hzl : zs.length ≤ 2000000 := by have := HM.out.len; omega
      have hOr := HM.out.row
      have HST := Hid.intro hstp
      have hw' := hw.symm
      subst hw'
      clear hc hq hstp hqs hdl hMK hw
      go_wp2_with fail
      refine wp_region_fl (by kernel_rfl) (fl_told wr.heap.size bq oq k g cap l.length cq who q_1 q_2_0 q_2_1 q_2_2.p q_2_2.c q_2_2.l zs) (fun d W => Keep g wr W ∧ (d 19 = false → ORow 62 5 W g cap zs.length (zs.flatMap yTlmJob.cells))) [21, 22, 23, 24, 25, 26, 27, 28, 29, 30, 31, 32, 33, 34, 35, 36, 37, 38, 39, 40, 5] (by kernel_rfl) (by kernel_rfl) (by kernel_rfl) ?c0 ?looks ?done
      case looks =>
        intro hcl i o ho
        rcases i with _ | _ | _ | _ | _ | _ | _ | _ | _ | _ | _ | _ | _ | _ | _ | _ | _ | _ | _ | _ | _ | i
        · simp at ho; subst ho
          refine fo_det (st_told wr.heap.size bq oq k g cap l.length cq who q_1 q_2_0 q_2_1 q_2_2.p q_2_2.c q_2_2.l zs) hcl rfl rfl rfl rfl (by kernel_rfl) (fun _ _ h => h) (fun done ρ W hat => ?_)
          have e5 : ρ (.tmp 5) = .slice (some ⟨g, 0, none⟩) zs.length cap := hat.oldB 5 (by kernel_rfl)
          have hC := hat.cls
          have hc := hat.con
          simp only [execOp, e5]
          go_simp
        · simp at ho; subst ho
          refine fo_det (st_told wr.heap.size bq oq k g cap l.length cq who q_1 q_2_0 q_2_1 q_2_2.p q_2_2.c q_2_2.l zs) hcl rfl rfl rfl rfl (by kernel_rfl) (fun _ _ h => h) (fun done ρ W hat => ?_)
          have e0 : ρ (.tmp 0) = .slice (some ⟨bq, oq, none⟩) l.length cq := hat.out 0 (by kernel_rfl)
          have hC := hat.cls
          have hc := hat.con
          simp only [execOp, e0]
          go_simp
        · simp at ho; subst ho
          refine fo_det (st_told wr.heap.size bq oq k g cap l.length cq who q_1 q_2_0 q_2_1 q_2_2.p q_2_2.c q_2_2.l zs) hcl rfl rfl rfl rfl (by kernel_rfl) (fun _ _ h => h) (fun done ρ W hat => ?_)
          have e6 : ρ (.tmp 6) = .int .i64 (k : Int) := hat.out 6 (by kernel_rfl)
          have hC := hat.cls
          have hc := hat.con
          simp only [execOp, e6]
          go_simp
        · simp at ho; subst ho
          refine fo_det (st_told wr.heap.size bq oq k g cap l.length cq who q_1 q_2_0 q_2_1 q_2_2.p q_2_2.c q_2_2.l zs) hcl rfl rfl rfl rfl (by kernel_rfl) (fun _ _ h => h) (fun done ρ W hat => ?_)
          have e22 : ρ (.tmp 22) = .slice (some ⟨bq, oq, none⟩) l.length cq := fIs_at (d := 22) (v := .slice (some ⟨bq, oq, none⟩) l.length cq) (hat.fact 1 (by kernel_rfl))
          have e23 : ρ (.tmp 23) = .int .i64 (k : Int) := fIs_at (d := 23) (v := .int .i64 (k : Int)) (hat.fact 2 (by kernel_rfl))
          have hC := hat.cls
          have hc := hat.con
          simp only [execOp, e22, e23]
          go_simp
        · simp at ho; subst ho
          refine fo_det (st_told wr.heap.size bq oq k g cap l.length cq who q_1 q_2_0 q_2_1 q_2_2.p q_2_2.c q_2_2.l zs) hcl rfl rfl rfl rfl (by kernel_rfl) (fun _ _ h => h) (fun done ρ W hat => ?_)
          have e24 : ρ (.tmp 24) = .pointer (some ⟨bq, oq + k * 5, none⟩) := fIs_at (d := 24) (v := .pointer (some ⟨bq, oq + k * 5, none⟩)) (hat.fact 3 (by kernel_rfl))
          have hC := hat.cls
          have hc := hat.con
          simp only [execOp, e24]
          go_simp
        · simp at ho; subst ho
          refine fo_det (st_told wr.heap.size bq oq k g cap l.length cq who q_1 q_2_0 q_2_1 q_2_2.p q_2_2.c q_2_2.l zs) hcl rfl rfl rfl rfl (by kernel_rfl) (fun _ _ h => h) (fun done ρ W hat => ?_)
          have e25 : ρ (.tmp 25) = .pointer (some ⟨bq, oq + k * 5, none⟩) := fIs_at (d := 25) (v := .pointer (some ⟨bq, oq + k * 5, none⟩)) (hat.fact 4 (by kernel_rfl))
          have hC := hat.cls
          have c0 := (hkq W hC.1).1
          have hc := hat.con
          simp only [execOp, e25]
          go_simp
        · simp at ho; subst ho
          refine fo_det (st_told wr.heap.size bq oq k g cap l.length cq who q_1 q_2_0 q_2_1 q_2_2.p q_2_2.c q_2_2.l zs) hcl rfl rfl rfl rfl (by kernel_rfl) (fun _ _ h => h) (fun done ρ W hat => ?_)
          have e0 : ρ (.tmp 0) = .slice (some ⟨bq, oq, none⟩) l.length cq := hat.out 0 (by kernel_rfl)
          have hC := hat.cls
          have hc := hat.con
          simp only [execOp, e0]
          go_simp
        · simp at ho; subst ho
          refine fo_det (st_told wr.heap.size bq oq k g cap l.length cq who q_1 q_2_0 q_2_1 q_2_2.p q_2_2.c q_2_2.l zs) hcl rfl rfl rfl rfl (by kernel_rfl) (fun _ _ h => h) (fun done ρ W hat => ?_)
          have e6 : ρ (.tmp 6) = .int .i64 (k : Int) := hat.out 6 (by kernel_rfl)
          have hC := hat.cls
          have hc := hat.con
          simp only [execOp, e6]
          go_simp
        · simp at ho; subst ho
          refine fo_det (st_told wr.heap.size bq oq k g cap l.length cq who q_1 q_2_0 q_2_1 q_2_2.p q_2_2.c q_2_2.l zs) hcl rfl rfl rfl rfl (by kernel_rfl) (fun _ _ h => h) (fun done ρ W hat => ?_)
          have e27 : ρ (.tmp 27) = .slice (some ⟨bq, oq, none⟩) l.length cq := fIs_at (d := 27) (v := .slice (some ⟨bq, oq, none⟩) l.length cq) (hat.fact 6 (by kernel_rfl))
          have e28 : ρ (.tmp 28) = .int .i64 (k : Int) := fIs_at (d := 28) (v := .int .i64 (k : Int)) (hat.fact 7 (by kernel_rfl))
          have hC := hat.cls
          have hc := hat.con
          simp only [execOp, e27, e28]
          go_simp
        · simp at ho; subst ho
          refine fo_det (st_told wr.heap.size bq oq k g cap l.length cq who q_1 q_2_0 q_2_1 q_2_2.p q_2_2.c q_2_2.l zs) hcl rfl rfl rfl rfl (by kernel_rfl) (fun _ _ h => h) (fun done ρ W hat => ?_)
          have e29 : ρ (.tmp 29) = .pointer (some ⟨bq, oq + k * 5, none⟩) := fIs_at (d := 29) (v := .pointer (some ⟨bq, oq + k * 5, none⟩)) (hat.fact 8 (by kernel_rfl))
          have hC := hat.cls
          have hc := hat.con
          simp only [execOp, e29]
          go_simp
        · simp at ho; subst ho
          refine fo_det (st_told wr.heap.size bq oq k g cap l.length cq who q_1 q_2_0 q_2_1 q_2_2.p q_2_2.c q_2_2.l zs) hcl rfl rfl rfl rfl (by kernel_rfl) (fun _ _ h => h) (fun done ρ W hat => ?_)
          have e30 : ρ (.tmp 30) = .pointer (some ⟨bq, oq + k * 5 + 1, none⟩) := fIs_at (d := 30) (v := .pointer (some ⟨bq, oq + k * 5 + 1, none⟩)) (hat.fact 9 (by kernel_rfl))
          have hC := hat.cls
          have c1 := (hkq W hC.1).2.1
          have hc := hat.con
          simp only [execOp, e30]
          go_simp
        · simp at ho; subst ho
          refine fo_det (st_told wr.heap.size bq oq k g cap l.length cq who q_1 q_2_0 q_2_1 q_2_2.p q_2_2.c q_2_2.l zs) hcl rfl rfl rfl rfl (by kernel_rfl) (fun _ _ h => h) (fun done ρ W hat => ?_)
          have e0 : ρ (.tmp 0) = .slice (some ⟨bq, oq, none⟩) l.length cq := hat.out 0 (by kernel_rfl)
          have hC := hat.cls
          have hc := hat.con
          simp only [execOp, e0]
          go_simp
        · simp at ho; subst ho
          refine fo_det (st_told wr.heap.size bq oq k g cap l.length cq who q_1 q_2_0 q_2_1 q_2_2.p q_2_2.c q_2_2.l zs) hcl rfl rfl rfl rfl (by kernel_rfl) (fun _ _ h => h) (fun done ρ W hat => ?_)
          have e6 : ρ (.tmp 6) = .int .i64 (k : Int) := hat.out 6 (by kernel_rfl)
          have hC := hat.cls
          have hc := hat.con
          simp only [execOp, e6]
          go_simp
        · simp at ho; subst ho
          refine fo_det (st_told wr.heap.size bq oq k g cap l.length cq who q_1 q_2_0 q_2_1 q_2_2.p q_2_2.c q_2_2.l zs) hcl rfl rfl rfl rfl (by kernel_rfl) (fun _ _ h => h) (fun done ρ W hat => ?_)
          have e32 : ρ (.tmp 32) = .slice (some ⟨bq, oq, none⟩) l.length cq := fIs_at (d := 32) (v := .slice (some ⟨bq, oq, none⟩) l.length cq) (hat.fact 11 (by kernel_rfl))
          have e33 : ρ (.tmp 33) = .int .i64 (k : Int) := fIs_at (d := 33) (v := .int .i64 (k : Int)) (hat.fact 12 (by kernel_rfl))
          have hC := hat.cls
          have hc := hat.con
          simp only [execOp, e32, e33]
          go_simp
        · simp at ho; subst ho
          refine fo_det (st_told wr.heap.size bq oq k g cap l.length cq who q_1 q_2_0 q_2_1 q_2_2.p q_2_2.c q_2_2.l zs) hcl rfl rfl rfl rfl (by kernel_rfl) (fun _ _ h => h) (fun done ρ W hat => ?_)
          have e34 : ρ (.tmp 34) = .pointer (some ⟨bq, oq + k * 5, none⟩) := fIs_at (d := 34) (v := .pointer (some ⟨bq, oq + k * 5, none⟩)) (hat.fact 13 (by kernel_rfl))
          have hC := hat.cls
          have hc := hat.con
          simp only [execOp, e34]
          go_simp
        · simp at ho; subst ho
          refine fo_det (st_told wr.heap.size bq oq k g cap l.length cq who q_1 q_2_0 q_2_1 q_2_2.p q_2_2.c q_2_2.l zs) hcl rfl rfl rfl rfl (by kernel_rfl) (fun _ _ h => h) (fun done ρ W hat => ?_)
          have e35 : ρ (.tmp 35) = .pointer (some ⟨bq, oq + k * 5 + 2, none⟩) := fIs_at (d := 35) (v := .pointer (some ⟨bq, oq + k * 5 + 2, none⟩)) (hat.fact 14 (by kernel_rfl))
          have hC := hat.cls
          obtain ⟨c0, c1, c2⟩ := (hkq W hC.1).2.2
          have hc := hat.con
          simp only [execOp, e35]
          go_simp
        · simp at ho; subst ho
          refine fo_grow (st_told wr.heap.size bq oq k g cap l.length cq who q_1 q_2_0 q_2_1 q_2_2.p q_2_2.c q_2_2.l zs) hcl rfl rfl (fun done ρ W hat => ?_)
          have e36 : ρ (.tmp 36) = .agg #[.int .i64 q_2_0, .int .i64 q_2_1, .slice q_2_2.p q_2_2.l.length q_2_2.c] := fIs_at (d := 36) (v := .agg #[.int .i64 q_2_0, .int .i64 q_2_1, .slice q_2_2.p q_2_2.l.length q_2_2.c]) (hat.fact 15 (by kernel_rfl))
          have hC := hat.cls
          have hf := hat.fn
          refine up_call 29 #[.agg #[.int .i64 q_2_0, .int .i64 q_2_1, .slice q_2_2.p q_2_2.l.length q_2_2.c]] (by simp only [execOp]; go_simp) ?_
          refine (HL5.out W hC.1).mono ?_
          rintro e W1 ⟨p, c, rfl, hF, hb⟩
          exact ⟨_, rfl, ⟨hC.1.trans (Keep.of_below hb), fun h => (hC.2 h).of (hb.block _ (hC.2 h).lt)⟩, hb, fun _ => ⟨p, c, rfl, hF.mono hC.1.size⟩, free_spec (by kernel_rfl) hat.lt⟩
        · simp at ho; subst ho
          refine fo_grow (st_told wr.heap.size bq oq k g cap l.length cq who q_1 q_2_0 q_2_1 q_2_2.p q_2_2.c q_2_2.l zs) hcl rfl rfl (fun done ρ W hat => ?_)
          have e26 : ρ (.tmp 26) = .int .i64 who := fIs_at (d := 26) (v := .int .i64 who) (hat.fact 5 (by kernel_rfl))
          have e31 : ρ (.tmp 31) = .int .i64 q_1 := fIs_at (d := 31) (v := .int .i64 q_1) (hat.fact 10 (by kernel_rfl))
          have hC := hat.cls
          have hd : done 19 = false := by
            cases h : done 19 with
            | false => rfl
            | true =>
              have h18 := hat.clos 19 _ h rfl ⟨18, .data⟩ (by simp) rfl
              have h17 := hat.clos 18 _ h18 rfl ⟨17, .data⟩ (by simp) rfl
              have := hat.new; rw [h17] at this; cases this
          obtain ⟨p, c, k1, hF⟩ := (hat.fact 16 (by kernel_rfl)) hd
          have k1' : ρ (.tmp 37) = .agg #[.int .i64 q_2_0, .int .i64 q_2_1, .slice p q_2_2.l.length c] := k1
          refine up_val (.agg #[.int .i64 who, .int .i64 q_1, .int .i64 q_2_0, .int .i64 q_2_1, .slice p q_2_2.l.length c]) W (by simp only [execOp]; go_simp) ⟨hC, Gr.refl _, fun _ => ⟨p, c, rfl, hF⟩, free_spec (by kernel_rfl) hat.lt⟩
        · simp at ho; subst ho
          refine fo_grow (st_told wr.heap.size bq oq k g cap l.length cq who q_1 q_2_0 q_2_1 q_2_2.p q_2_2.c q_2_2.l zs) hcl rfl rfl (fun done ρ W hat => ?_)
          have hC := hat.cls
          have hd : done 19 = false := by
            cases h : done 19 with
            | false => rfl
            | true =>
              have h18 := hat.clos 19 _ h rfl ⟨18, .data⟩ (by simp) rfl
              have := hat.new; rw [h18] at this; cases this
          obtain ⟨p, c, k1, hF⟩ := (hat.fact 17 (by kernel_rfl)) hd
          have k1' : ρ (.tmp 38) = .agg #[.int .i64 who, .int .i64 q_1, .int .i64 q_2_0, .int .i64 q_2_1, .slice p q_2_2.l.length c] := k1
          refine up_val (.slice (some ⟨W.heap.size, 0, none⟩) 1 1) (W.alloc (.cells #[.int .i64 who, .int .i64 q_1, .int .i64 q_2_0, .int .i64 q_2_1, .slice p q_2_2.l.length c] 62)) (by simp only [execOp]; go_simp) ?_
          exact ⟨⟨hC.1.alloc _, fun h => (hC.2 h).of ((nw_below W _).block _ (hC.2 h).lt)⟩, nw_below W _, fun _ => ⟨W.heap.size, p, c, rfl, hC.1.size, nw_k _ rfl, hF.below yI_law (nw_below W _)⟩, free_spec (by kernel_rfl) hat.lt⟩
        · simp at ho; subst ho
          refine fo_rel (S := fun w w' => Kept (fun k => k = g) w w') (E := [16, 17, 18, 19, 20]) (grl_told wr.heap.size bq oq k g cap l.length cq who q_1 q_2_0 q_2_1 q_2_2.p q_2_2.c q_2_2.l zs) hcl rfl rfl (fun done ρ W hat => ?_)
          have e21 : ρ (.tmp 21) = .slice (some ⟨g, 0, none⟩) zs.length cap := fIs_at (d := 21) (v := .slice (some ⟨g, 0, none⟩) zs.length cap) (hat.fact 0 (by kernel_rfl))
          have hC := hat.cls
          obtain ⟨b, p, c, k1, hNb, k2, hF⟩ := (hat.fact 18 (by kernel_rfl)) (show done 19 = false from hat.new)
          have k1' : ρ (.tmp 39) = .slice (some ⟨b, 0, none⟩) 1 1 := k1
          refine tu_appK (z := .agg #[.int .i64 0, .int .i64 0, .int .i64 0, .int .i64 0, .slice none 0 0]) (p := some ⟨g, 0, none⟩) yTlmJob_law Try.underlying29 HI.out.1 HI.out.2.1 HI.out.2.2.1 HI.out.2.2.2 rfl (by decide) zs (who, q_1, (q_2_0, q_2_1, (⟨p, c, q_2_2.l⟩ : Lst Int))) rfl e21 rfl (.inr ⟨g, rfl, hC.2 hat.new, hcap⟩) k1' (fun j v hv => (heap_cell k2 j).trans (by rw [yTlmJob_cells] at hv; simpa using hv)) hzl ?_
          intro g1 c1 W1 hO hc1 hor hkp
          have hkg : Kept (fun k => k = g) W W1 := hkp.mono (fun k e => by cases e; rfl)
          refine ⟨⟨hC.1.trans ⟨hkg.os, hkg.tape, hkg.output, hkg.size, fun k hk hn => hkg.block k hk hn⟩, fun h => absurd (show true = false from h) (by decide)⟩, hkg, fK_mk (K := k19_told wr.heap.size bq oq k g cap l.length cq who q_1 q_2_0 q_2_1 q_2_2.p q_2_2.c q_2_2.l zs) ⟨g1, c1, p, c, updV_same _ _ _, hO, hc1, ?_, ?_⟩, fun j hj hcj => ?_⟩
          · rcases hor with h | h
            · cases h; exact .inl rfl
            · exact .inr (Nat.le_trans hC.1.size h)
          · exact hF.of yI_law (fun x hx => hkg.block x (yI_law.ow_lt hF.ow x hx) (fun e => by have := hF.ge x hx; omega))
          · rcases asks_told j (hat.lt j hj) hcj with rfl | rfl | rfl | rfl | rfl
            · intro hd; exact absurd (show true = false from hd) (by decide)
            · intro hd; exact absurd (show true = false from hd) (by decide)
            · intro hd; exact absurd (show true = false from hd) (by decide)
            · have := hat.new; rw [hj] at this; cases this
            · have hcl2 := hat.clos 20 _ hj rfl ⟨19, .data⟩ (by simp) rfl
              have := hat.new; rw [hcl2] at this; cases this
        · simp at ho; subst ho
          refine fo_grow (st_told wr.heap.size bq oq k g cap l.length cq who q_1 q_2_0 q_2_1 q_2_2.p q_2_2.c q_2_2.l zs) hcl rfl rfl (fun done ρ W hat => ?_)
          have hC := hat.cls
          have kk := (fK_at (d := 40) (K := k19_told wr.heap.size bq oq k g cap l.length cq who q_1 q_2_0 q_2_1 q_2_2.p q_2_2.c q_2_2.l zs) (hat.fact 19 (by kernel_rfl)))
          refine up_val (ρ (.tmp 40)) W (by simp only [execOp]; rfl) ?_
          refine ⟨hC, Gr.refl _, fK_mk (K := k20_told wr.heap.size bq oq k g cap l.length cq who q_1 q_2_0 q_2_1 q_2_2.p q_2_2.c q_2_2.l zs) ?_, free_spec (by kernel_rfl) hat.lt⟩
          rw [updV_same]; exact kk
        · simp at ho
      case c0 => exact ⟨(Keep.refl _ _).drew, fun _ => hOr⟩
      case done =>
        intro f W hC hf hout
        obtain ⟨g', c', p, c, k1, k2, k3, k4, k5⟩ := fK_at (d := 5) (K := k20_told wr.heap.size bq oq k g cap l.length cq who q_1 q_2_0 q_2_1 q_2_2.p q_2_2.c q_2_2.l zs) (hf 20 (by decide))
        have k1' : f 5 = _ := k1
        have HM2 : Hid (ToldSs l who w W (k + 1) g' c' (zs ++ [(who, q_1, (q_2_0, q_2_1, (⟨p, c, q_2_2.l⟩ : Lst Int)))])) := Hid.intro ⟨by
            rw [HST.out, List.map_append, HM.out.pl]
            simp only [beq_self_eq_true, if_true, List.map_cons, List.map_nil]
            rfl, by have := HM.out.len; simp; omega, by rw [show (zs ++ [(who, q_1, (q_2_0, q_2_1, (⟨p, c, q_2_2.l⟩ : Lst Int)))]).length = zs.length + 1 by simp]; exact k2, k3, fun x hx => by
            rcases List.mem_append.1 hx with hx | hx
            · exact yTlmJob_law.ow_of (HM.out.ow x hx) (fun b hb => hC.1.block b (yTlmJob_law.ow_lt (HM.out.ow x hx) b hb) (HM.out.ne x hx b hb))
            · simp at hx; subst hx; exact ⟨trivial, trivial, trivial, trivial, k5.ow⟩, HM.out.bel.trans (hC.1.below HM.out.new HM.out.bel.size), by
            have h1 := HM.out.new
            have h2 := HM.out.bel.size
            rcases k4 with rfl | h <;> omega⟩
        have e6 : f 6 = _ := hout 6 (by kernel_rfl)
        clear k2 k3 k4 k5 hC hf HM HST hOr
        simp only [fill, k1']
        go_simp
        go_wp2
        go_roundw
        case rel => exact ⟨k + 1, g', c', _, by omega, by go_num, by simp, HM2⟩
        case measure => simp [intOf]; omega
    · have hke : k = l.length := by omega
      have HO : Hid (yTlmJobS.pl ⟨some ⟨g, 0, none⟩, cap, zs⟩ = toldP (yTlmJobS.pl ⟨p0, cq, l⟩) who ∧ yTlmJobS.ow wr ⟨some ⟨g, 0, none⟩, cap, zs⟩ ∧ Below w.heap.size w wr) := Hid.intro ⟨by
          have h1 := HM.out.pl
          rw [hke, List.take_length] at h1
          exact h1, ⟨by obtain ⟨_, _, _, h, _⟩ := HM.out.row; exact h, by have := HM.out.cap; unfold maxLen at this; exact this, .inr ⟨g, rfl, HM.out.row⟩, HM.out.ow⟩, HM.out.bel⟩
      clear HM
      go_wp2
      go_ret
      exact ⟨⟨some ⟨g, 0, none⟩, cap, zs⟩, rfl, HO.out.1, HO.out.2.1, HO.out.2.2⟩

end Go.Proofs.Ytpjfkimgienkbab
