/-
  BusOk of program and model.
-/
import Derived.Test.YtlifkfemdknndaaKBusCfgM
import Derived.Test.YtlifkfemdknndaaKReqs
import Derived.Test.YtlifkfemdknndaaRunA
import Derived.Test.YtlifkfemdknndaaMapCM
import Derived.Test.YtlifkfemdknndaaAllAre
import Derived.Test.YtlifkfemdknndaaImplUM
namespace Go.Proofs.Ytlifkfemdknndaa
open Go.RowKit
set_option linter.unusedSimpArgs false
set_option linter.unusedVariables false

theorem slow_in (a : Int) (w : World) : Calls Try.prog 31 #[.int .i64 a] w fun e w' => e = .returned (.bool (inB a 0 3)) ∧ w' = w := by
  by_cases h1 : 0 ≤ a
  · by_cases h2 : a ≤ 3
    · have HE : Hid (inB a 0 3 = true) := Hid.intro (by simp [inB, h1, h2])
      go_enter Try.func31, Try.ntmps31
      go_wp2
      go_ret
      exact ⟨by rw [HE.out]; rfl, rfl⟩
    · have HE : Hid (inB a 0 3 = false) := Hid.intro (by simp [inB, h2])
      go_enter Try.func31, Try.ntmps31
      go_wp2
      go_ret
      exact ⟨by rw [HE.out]; rfl, rfl⟩
  · have HE : Hid (inB a 0 3 = false) := Hid.intro (by simp [inB, h1])
    go_enter Try.func31, Try.ntmps31
    go_wp2
    go_ret
    exact ⟨by rw [HE.out]; rfl, rfl⟩

set_option maxRecDepth 100000 in
set_option maxHeartbeats 1000000 in
theorem allAre_s (p : Option Addr) (cap : Nat) (xs : List Int) (w : World) (hp : IntsAt w p xs) (h1 : xs.length ≤ cap) (h2 : cap ≤ 9223372036854775807) :
    Calls Try.prog 30 #[.slice p xs.length cap, .func (.func 31) #[] #[]] w fun e w' => e = .returned (.bool (allIn xs 0 3)) ∧ w' = w := by
  have HP := Hid.intro hp
  clear hp
  go_enter Try.func30, Try.ntmps30
  go_wp2
  go_loopw [9] (fun i wr => ∃ k : Nat, k ≤ xs.length ∧ i = .int .i64 k ∧ wr = w ∧ Hid (allIn (xs.take k) 0 3 = true)) (fun i _ => xs.length - (intOf i).toNat)
  case atStart => exact ⟨0, Nat.zero_le _, rfl, rfl, rfl⟩
  case round =>
    obtain ⟨k, hk, rfl, rfl, HF⟩ := hrel
    by_cases hlt : k < xs.length
    · rcases HP.out with hx | ⟨b, off, rfl, hb, hcells⟩
      · subst hx; simp at hlt
      have hk0 : (0 : Int) ≤ (k : Int) := by omega
      have hk1 : (k : Int) < (xs.length : Int) := by omega
      have hc1 := hcells k hlt
      clear hcells HP
      cases hb : inB xs[k] 0 3
      · have HN := Hid.intro (allIn_hit hlt hb)
        go_wp2_with (go_at_call 31; refine (slow_in _ _).mono ?_; rintro e w' ⟨rfl, rfl⟩)
        go_ret
        exact ⟨by rw [HN.out]; rfl, rfl⟩
      · have HN := Hid.intro (allIn_step hlt HF.out hb)
        go_wp2_with (go_at_call 31; refine (slow_in _ _).mono ?_; rintro e w' ⟨rfl, rfl⟩)
        go_roundw
        case rel => exact ⟨k + 1, by omega, by go_num, by simp, HN⟩
        case measure => simp [intOf]; omega
    · have HN := Hid.intro (allIn_end (show xs.length ≤ k by omega) HF.out)
      go_wp2
      go_ret
      exact ⟨by rw [HN.out]; rfl, rfl⟩

/-- what all ask is ok -/
def progsB (l : List (List (Int × Int × Int × Int × Bool × List Int × List Int))) : Bool := l.all (fun q => decide (q.length ≤ 12) && progOkB (q.map reqOf))
def busOkP (c : List (Int × Int × Int × Bool) × List Int × List (List (Int × Int × Int × Int × Bool × List Int × List Int))) : Bool := mapOkB (c.1.map rngOf) && (decide (c.2.1.length = 4) && (allIn c.2.1 0 3 && (decide (c.2.2.length = 3) && progsB c.2.2)))
theorem progs_hit {l : List (List (Int × Int × Int × Int × Bool × List Int × List Int))} {k : Nat} (hk : k < l.length) (h : (decide (l[k].length ≤ 12) && progOkB (l[k].map reqOf)) = false) : progsB l = false := List.all_eq_false.2 ⟨l[k], List.getElem_mem hk, by simp only [h]; simp⟩
theorem progs_step {l : List (List (Int × Int × Int × Int × Bool × List Int × List Int))} {k : Nat} (hk : k < l.length) (h : progsB (l.take k) = true) (h' : (decide (l[k].length ≤ 12) && progOkB (l[k].map reqOf)) = true) : progsB (l.take (k + 1)) = true := by
  rw [List.take_succ_eq_append_getElem hk]
  unfold progsB at h ⊢
  rw [List.all_append, h]
  simp only [List.all_cons, List.all_nil, h']
  rfl
theorem progs_end {l : List (List (Int × Int × Int × Int × Bool × List Int × List Int))} {k : Nat} (hk : l.length ≤ k) (h : progsB (l.take k) = true) : progsB l = true := by rwa [List.take_of_length_le hk] at h
theorem rngs_pl (a : Lst (Int × Int × Int × Bool)) : (yMapRangeS.pl a).map rngOf = a.l.map rngOf := by
  show (a.l.map yMapRange.pl).map rngOf = _
  rw [List.map_map]; exact List.map_congr_left (fun x _ => rfl)
/-- one of the rows of a row of rows -/
theorem progs_at {w : World} {a : Lst (Lst (Int × Int × Int × Int × Bool × Lst Int × Lst Int))} (h : yReqReqSS.rd w a) {k : Nat} (hk : k < a.l.length) : ∃ b off, a.p = some ⟨b, off, none⟩ ∧ b < w.heap.size ∧ w.cell? ⟨b, off + k, none⟩ = some (.slice a.l[k].p a.l[k].l.length a.l[k].c) ∧ yReqReqS.rd w a.l[k] := by
  obtain ⟨_, _, h3, h4⟩ := h
  rcases h3 with h3 | ⟨b, off, e, hlt, hc⟩
  · rw [h3] at hk; simp at hk
  · have := hc k hk 0 _ rfl
    refine ⟨b, off, e, hlt, ?_, h4 _ (List.getElem_mem hk)⟩
    simpa [yReqReqS, gLst] using this

set_option maxRecDepth 100000 in
set_option maxHeartbeats 2000000 in
theorem busProgs_any (hI : ReqOkC) (a : Lst (Lst (Int × Int × Int × Int × Bool × Lst Int × Lst Int))) (w : World) (h : yReqReqSS.rd w a) :
    Calls Try.prog 32 #[.slice a.p a.l.length a.c] w fun e w' => e = .returned (.bool (decide ((yReqReqSS.pl a).length = 3) && progsB (yReqReqSS.pl a))) ∧ Below w.heap.size w w' := by
  obtain ⟨p, c, l⟩ := a
  have hl1 : l.length ≤ c := h.1
  have hl2 : c ≤ 9223372036854775807 := h.2.1
  have HR := Hid.intro h
  have HI := Hid.intro hI
  clear h hI
  obtain ⟨z, hz⟩ : ∃ z, z = yReqReqSS.pl ⟨p, c, l⟩ := ⟨_, rfl⟩
  have hzl : z.length = l.length := by rw [hz]; exact List.length_map ..
  have HZ := Hid.intro hz
  rw [← hz]
  clear hz
  show Calls Try.prog 32 #[.slice p l.length c] w _
  by_cases h3 : l.length = 3
  rotate_left
  · have hI : ¬ ((l.length : Int) = 3) := by omega
    have HE : Hid ((decide (z.length = 3) && progsB z) = false) := Hid.intro (by simp [hzl, h3])
    clear hzl
    go_enter Try.func32, Try.ntmps32
    go_wp2
    go_ret
    exact ⟨by rw [HE.out]; rfl, Below.refl _ _⟩
  · have hI : (l.length : Int) = 3 := by omega
    have HD : Hid ((decide (z.length = 3) && progsB z) = progsB z) := Hid.intro (by simp [hzl, h3])
    have HZL := Hid.intro hzl
    clear hzl
    go_enter Try.func32, Try.ntmps32
    rw [h3]
    go_wp2
    go_loopw [10] (fun i wr => ∃ k : Nat, k ≤ 3 ∧ i = .int .i64 k ∧ Below w.heap.size w wr ∧ Hid (progsB (z.take k) = true)) (fun i _ => 3 - (intOf i).toNat)
    case atStart => exact ⟨0, Nat.zero_le _, rfl, Below.refl _ _, Hid.intro rfl⟩
    case round =>
      obtain ⟨k, hk, rfl, hbl, HF⟩ := hrel
      by_cases hlt : k < 3
      · have hk0 : (0 : Int) ≤ (k : Int) := by omega
        have hk1 : (k : Int) < 3 := by omega
        obtain ⟨b, off, hp, hb, hc0, hq⟩ := progs_at (yReqReqSS_law.rd_blw HR.out hbl) (k := k) (by simp only; omega)
        simp only at hp hc0 hq
        subst hp
        have hzk : z[k]'(by have := HZL.out; omega) = yReqReqS.pl (l[k]'(by omega)) := by
          have e : z[k]? = (l.map yReqReqS.pl)[k]? := by rw [HZ.out]; rfl
          have h1 : k < z.length := by have := HZL.out; omega
          have h2 : k < l.length := by omega
          simpa [h1, h2] using e
        have hkz : k < z.length := by have := HZL.out; omega
        have HP := Hid.intro (fun h => progs_hit hkz h)
        have HS := Hid.intro (fun h => progs_step hkz HF.out h)
        rw [hzk] at HP HS
        generalize l[k]'(by omega) = q at hc0 hq HP HS hzk
        have hql : (yReqReqS.pl q).length = q.l.length := List.length_map ..
        have hqc1 : q.l.length ≤ q.c := hq.1
        have hqc2 : q.c ≤ 9223372036854775807 := hq.2.1
        have HQ := Hid.intro hq
        have HO := Hid.intro (impl_allOk HI.out q.p q.c (q.l.map rqOf) wr (rqs_rd hq) (by simpa using hq.1) hq.2.1)
        rw [reqs_pl] at HO
        simp only [List.length_map] at HO
        clear hq hzk hkz
        by_cases h12 : (12 : Int) < (q.l.length : Int)
        · have HE := Hid.intro (HP.out (by rw [hql]; simp; omega))
          clear HO HQ
          go_wp2
          go_ret
          exact ⟨by rw [HD.out, HE.out]; rfl, hbl⟩
        · have h12' : q.l.length ≤ 12 := by omega
          go_wp2_with fail
          refine HO.out.mono ?_
          rintro e w1 ⟨rfl, hb1⟩
          have hbl1 := hbl.trans (hb1.mono hbl.size)
          clear HO HQ hb1 hbl
          cases hg : progOkB ((yReqReqS.pl q).map reqOf)
          · have HE := Hid.intro (HP.out (by rw [hg]; simp))
            go_wp2
            go_ret
            exact ⟨by rw [HD.out, HE.out]; rfl, hbl1⟩
          · have HE := Hid.intro (HS.out (by rw [hql, hg]; simp [h12']))
            go_wp2
            go_roundw
            case rel => exact ⟨k + 1, by omega, by go_num, hbl1, HE⟩
            case measure => simp [intOf]; omega
      · have HE := Hid.intro (progs_end (l := z) (k := k) (by have := HZL.out; omega) HF.out)
        have hk3 : k = 3 := by omega
        subst hk3
        go_wp2
        go_ret
        exact ⟨by rw [HD.out, HE.out]; rfl, hbl⟩

theorem busOk_eq (m : Lst (Int × Int × Int × Bool)) (la : Lst Int) (ps : Lst (Lst (Int × Int × Int × Int × Bool × Lst Int × Lst Int))) : busOkP (yBusCfg.pl (m, la, ps)) = (mapOkB (m.l.map rngOf) && (decide (la.l.length = 4) && (allIn la.l 0 3 && (decide ((yReqReqSS.pl ps).length = 3) && progsB (yReqReqSS.pl ps))))) := by
  have e : yBusCfg.pl (m, la, ps) = (yMapRangeS.pl m, yI.pl la, yReqReqSS.pl ps) := rfl
  rw [e]
  unfold busOkP
  simp only
  rw [rngs_pl, yI_pl]

set_option maxRecDepth 100000 in
set_option maxHeartbeats 2000000 in
theorem impl_BusOk (hI : ReqOkC) (c : Lst (Int × Int × Int × Bool) × Lst Int × Lst (Lst (Int × Int × Int × Int × Bool × Lst Int × Lst Int))) (w : World) (h : yBusCfg.rd w c) :
    Calls Try.prog 8 #[yBusCfg.val c] w fun e w' => e = .returned (.bool (busOkP (yBusCfg.pl c))) ∧ Below w.heap.size w w' := by
  obtain ⟨m, la, ps⟩ := c
  have hbl : ∀ o, Below w.heap.size w (w.alloc o) := fun o => (Below.refl _ w).alloc (Nat.le_refl _) o
  have h1 : yMapRangeS.rd w m := h.1
  have h2 : yI.rd w la := h.2.1
  have h3 : yReqReqSS.rd w ps := h.2.2
  have HE := Hid.intro (busOk_eq m la ps)
  have HMO : Hid (∀ W, Below w.heap.size w W → Calls Try.prog 29 #[.slice m.p m.l.length m.c] W fun e w' => e = .returned (.bool (mapOkB (m.l.map rngOf))) ∧ Below W.heap.size W w') := Hid.intro (fun W hW => by
    have := impl_MapOk m.p m.c (m.l.map rngOf) W (rngs_rd (yMapRangeS_law.rd_blw h1 hW)) (by simpa using h1.1) h1.2.1
    simpa only [List.length_map] using this)
  have HLA : Hid (∀ W, Below w.heap.size w W → Calls Try.prog 30 #[.slice la.p la.l.length la.c, .func (.func 31) #[] #[]] W fun e w' => e = .returned (.bool (allIn la.l 0 3)) ∧ w' = W) := Hid.intro (fun W hW => allAre_s la.p la.c la.l W (yI_rd.1 (yI_law.rd_blw h2 hW)).2.2 h2.1 h2.2.1)
  have HPS : Hid (∀ W, Below w.heap.size w W → Calls Try.prog 32 #[.slice ps.p ps.l.length ps.c] W fun e w' => e = .returned (.bool (decide ((yReqReqSS.pl ps).length = 3) && progsB (yReqReqSS.pl ps))) ∧ Below W.heap.size W w') := Hid.intro (fun W hW => busProgs_any hI ps W (yReqReqSS_law.rd_blw h3 hW))
  clear h h1 h2 h3 hI
  show Calls Try.prog 8 #[.agg #[.slice m.p m.l.length m.c, .slice la.p la.l.length la.c, .slice ps.p ps.l.length ps.c]] w fun e w' => e = .returned (.bool (busOkP (yBusCfg.pl (m, la, ps)))) ∧ Below w.heap.size w w'
  go_enter Try.func8, Try.ntmps8
  go_wp2_with fail
  refine (HMO.out _ (hbl _)).mono ?_
  rintro e w1 ⟨rfl, hb⟩
  have bel : Below w.heap.size w w1 := (hbl _).trans (hb.mono (hbl _).size)
  have bA : w1.heap[w.heap.size]? = some (.cells #[.slice m.p m.l.length m.c, .slice la.p la.l.length la.c, .slice ps.p ps.l.length ps.c] 27 (0, 0)) := (hb.block _ (by simp)).trans (nw_k _ rfl)
  have c1 : w1.cell? ⟨w.heap.size, 1, none⟩ = some (.slice la.p la.l.length la.c) := heap_cell bA 1
  have c2 : w1.cell? ⟨w.heap.size, 2, none⟩ = some (.slice ps.p ps.l.length ps.c) := heap_cell bA 2
  clear hb bA HMO hbl
  cases hm : mapOkB (m.l.map rngOf)
  · go_wp2
    go_ret
    exact ⟨by rw [HE.out, hm]; rfl, bel⟩
  by_cases h4 : la.l.length = 4
  rotate_left
  · have hI : ¬ ((la.l.length : Int) = 4) := by omega
    have hd : Hid (decide (la.l.length = 4) = false) := Hid.intro (by simp [h4])
    clear h4
    go_wp2
    go_ret
    exact ⟨by rw [HE.out, hm, hd.out]; rfl, bel⟩
  have hI : (la.l.length : Int) = 4 := by omega
  have hd : Hid (decide (la.l.length = 4) = true) := Hid.intro (by simp [h4])
  have HLA1 := Hid.intro (HLA.out w1 bel)
  have HPS1 := Hid.intro (HPS.out w1 bel)
  rw [h4] at HLA1 c1 ⊢
  clear h4 HLA HPS
  go_wp2_with fail
  refine HLA1.out.mono ?_
  rintro e w2 ⟨rfl, hw⟩
  replace hw := hw.symm
  subst hw
  cases hla : allIn la.l 0 3
  · go_wp2
    go_ret
    exact ⟨by rw [HE.out, hm, hd.out, hla]; rfl, bel⟩
  go_wp2_with fail
  refine HPS1.out.mono ?_
  rintro e w2 ⟨rfl, hb⟩
  have bel2 := bel.trans (hb.mono bel.size)
  clear hb HLA1 HPS1
  cases hp : (decide ((yReqReqSS.pl ps).length = 3) && progsB (yReqReqSS.pl ps))
  all_goals go_wp2
  all_goals go_ret
  all_goals exact ⟨by rw [HE.out, hm, hd.out, hla, hp]; rfl, bel2⟩

set_option maxRecDepth 100000 in
set_option maxHeartbeats 2000000 in
theorem spec_BusOk (c : Lst (Int × Int × Int × Bool) × Lst Int × Lst (Lst (Int × Int × Int × Int × Bool × Lst Int × Lst Int))) (w : World) (h : yBusCfg.rd w c) :
    Calls Try.prog 9 #[yBusCfg.val c] w fun e w' => e = .returned (.bool (busOkP (yBusCfg.pl c))) ∧ Below w.heap.size w w' := by
  obtain ⟨m, la, ps⟩ := c
  have hbl : ∀ o, Below w.heap.size w (w.alloc o) := fun o => (Below.refl _ w).alloc (Nat.le_refl _) o
  have h1 : yMapRangeS.rd w m := h.1
  have h2 : yI.rd w la := h.2.1
  have h3 : yReqReqSS.rd w ps := h.2.2
  have HE := Hid.intro (busOk_eq m la ps)
  have HMO : Hid (∀ W, Below w.heap.size w W → Calls Try.prog 33 #[.slice m.p m.l.length m.c] W fun e w' => e = .returned (.bool (mapOkB (m.l.map rngOf))) ∧ Below W.heap.size W w') := Hid.intro (fun W hW => by
    have := spec_MapOk m.p m.c (m.l.map rngOf) W (rngs_rd (yMapRangeS_law.rd_blw h1 hW)) (by simpa using h1.1) h1.2.1
    simpa only [List.length_map] using this)
  have HLA : Hid (∀ W, Below w.heap.size w W → Calls Try.prog 34 #[.slice la.p la.l.length la.c, .int .i64 0, .int .i64 3] W fun e w' => e = .returned (.bool (allIn la.l 0 3)) ∧ w' = W) := Hid.intro (fun W hW => l3All_any la.p la.c la.l 0 3 W (yI_rd.1 (yI_law.rd_blw h2 hW)).2.2 h2.1 h2.2.1)
  have HPR := Hid.intro h3
  have hpl : (yReqReqSS.pl ps).length = ps.l.length := List.length_map ..
  have hpc1 : ps.l.length ≤ ps.c := h3.1
  have hpc2 : ps.c ≤ 9223372036854775807 := h3.2.1
  clear h h1 h2 h3
  show Calls Try.prog 9 #[.agg #[.slice m.p m.l.length m.c, .slice la.p la.l.length la.c, .slice ps.p ps.l.length ps.c]] w fun e w' => e = .returned (.bool (busOkP (yBusCfg.pl (m, la, ps)))) ∧ Below w.heap.size w w'
  obtain ⟨z, hz⟩ : ∃ z, z = yReqReqSS.pl ps := ⟨_, rfl⟩
  rw [← hz] at hpl HE
  have HZ := Hid.intro hz
  have HZL := Hid.intro hpl
  clear hz hpl
  go_enter Try.func9, Try.ntmps9
  go_wp2_with fail
  refine (HMO.out _ (hbl _)).mono ?_
  rintro e w1 ⟨rfl, hb⟩
  have bel : Below w.heap.size w w1 := (hbl _).trans (hb.mono (hbl _).size)
  have bA : w1.heap[w.heap.size]? = some (.cells #[.slice m.p m.l.length m.c, .slice la.p la.l.length la.c, .slice ps.p ps.l.length ps.c] 27 (0, 0)) := (hb.block _ (by simp)).trans (nw_k _ rfl)
  have c1 : w1.cell? ⟨w.heap.size, 1, none⟩ = some (.slice la.p la.l.length la.c) := heap_cell bA 1
  have c2 : w1.cell? ⟨w.heap.size, 2, none⟩ = some (.slice ps.p ps.l.length ps.c) := heap_cell bA 2
  clear hb HMO hbl
  cases hm : mapOkB (m.l.map rngOf)
  · go_wp2
    go_ret
    exact ⟨by rw [HE.out, hm]; rfl, bel⟩
  by_cases h4 : la.l.length = 4
  rotate_left
  · have hI : ¬ ((la.l.length : Int) = 4) := by omega
    have hd : Hid (decide (la.l.length = 4) = false) := Hid.intro (by simp [h4])
    clear h4
    go_wp2
    go_ret
    exact ⟨by rw [HE.out, hm, hd.out]; rfl, bel⟩
  have hI : (la.l.length : Int) = 4 := by omega
  have hd : Hid (decide (la.l.length = 4) = true) := Hid.intro (by simp [h4])
  have HLA1 := Hid.intro (HLA.out w1 bel)
  have HBA := Hid.intro bA
  rw [h4] at HLA1 c1 HBA ⊢
  clear h4 HLA bA hI
  go_wp2_with fail
  refine HLA1.out.mono ?_
  rintro e w2 ⟨rfl, hw⟩
  replace hw := hw.symm
  subst hw
  cases hla : allIn la.l 0 3
  · go_wp2
    go_ret
    exact ⟨by rw [HE.out, hm, hd.out, hla]; rfl, bel⟩
  by_cases h5 : ps.l.length = 3
  rotate_left
  · have hI : ¬ ((ps.l.length : Int) = 3) := by omega
    have hf : Hid ((decide (z.length = 3) && progsB z) = false) := Hid.intro (by rw [HZL.out]; simp [h5])
    clear h5
    go_wp2
    go_ret
    exact ⟨by rw [HE.out, hm, hd.out, hla, hf.out]; rfl, bel⟩
  have HD : Hid ((decide (z.length = 3) && progsB z) = progsB z) := Hid.intro (by rw [HZL.out]; simp [h5])
  have h5i : (ps.l.length : Int) = 3 := by omega
  have H5 := Hid.intro h5
  go_wp2
  go_loopw [3] (fun i wr => ∃ k : Nat, k ≤ 3 ∧ i = .int .i64 k ∧ Below w1.heap.size w1 wr ∧ Hid (progsB (z.take k) = true)) (fun i _ => 3 - (intOf i).toNat)
  case atStart => exact ⟨0, Nat.zero_le _, rfl, Below.refl _ _, Hid.intro rfl⟩
  case round =>
    clear c1 c2
    obtain ⟨k, hk, rfl, hbl, HF⟩ := hrel
    by_cases hlt : k < 3
    · have hk0 : (0 : Int) ≤ (k : Int) := by omega
      have hk1 : (k : Int) < 3 := by omega
      have hkn : (k : Int) < (ps.l.length : Int) := by omega
      have bW := (hbl.block _ (heap_lt HBA.out)).trans HBA.out
      have c2 : wr.cell? ⟨w.heap.size, 2, none⟩ = some (.slice ps.p ps.l.length ps.c) := heap_cell bW 2
      have hps := yReqReqSS_law.rd_blw HPR.out (bel.trans (hbl.mono bel.size))
      have hkl : k < ps.l.length := by omega
      obtain ⟨b, off, hp, hb, hc0, hq⟩ := progs_at hps hkl
      rw [hp] at c2
      have hkz : k < z.length := by have := HZL.out; omega
      have hzk : z[k] = yReqReqS.pl (ps.l[k]) := by
        have e : z[k]? = (ps.l.map yReqReqS.pl)[k]? := by rw [HZ.out]; rfl
        simpa [hkz, hkl] using e
      have HP := Hid.intro (fun h => progs_hit hkz h)
      have HS := Hid.intro (fun h => progs_step hkz HF.out h)
      rw [hzk] at HP HS
      generalize ps.l[k] = q at hc0 hq HP HS hzk
      have hql : (yReqReqS.pl q).length = q.l.length := List.length_map ..
      have hqc1 : q.l.length ≤ q.c := hq.1
      have hqc2 : q.c ≤ 9223372036854775807 := hq.2.1
      have HO := Hid.intro (spec_l4Prog q.p q.c (q.l.map rqOf) wr (rqs_rd hq) (by simpa using hq.1) hq.2.1)
      rw [reqs_pl] at HO
      simp only [List.length_map] at HO
      have HBL := Hid.intro (bel.trans (hbl.mono bel.size))
      clear hq hzk hkz hps bW hp hkl
      by_cases h12 : (12 : Int) < (q.l.length : Int)
      · have HX := Hid.intro (HP.out (by rw [hql]; simp; omega))
        clear HO
        go_wp2
        go_ret
        exact ⟨by rw [HE.out, hm, hd.out, hla, HD.out, HX.out]; rfl, HBL.out⟩
      · have h12' : q.l.length ≤ 12 := by omega
        go_wp2_with fail
        refine HO.out.mono ?_
        rintro e w2 ⟨rfl, hb1⟩
        have hbl1 := hbl.trans (hb1.mono hbl.size)
        have hbe := HBL.out.trans (hb1.mono HBL.out.size)
        clear HO hb1 hbl HBL c2
        cases hg : progOkB ((yReqReqS.pl q).map reqOf)
        · have HX := Hid.intro (HP.out (by rw [hg]; simp))
          go_wp2
          go_ret
          exact ⟨by rw [HE.out, hm, hd.out, hla, HD.out, HX.out]; rfl, hbe⟩
        · have HX := Hid.intro (HS.out (by rw [hql, hg]; simp [h12']))
          go_wp2
          go_roundw
          case rel => exact ⟨k + 1, by omega, by go_num, hbl1, HX⟩
          case measure => simp [intOf]; omega
    · have HX := Hid.intro (progs_end (l := z) (k := k) (by have := HZL.out; omega) HF.out)
      have hk3 : k = 3 := by omega
      subst hk3
      go_wp2
      go_ret
      exact ⟨by rw [HE.out, hm, hd.out, hla, HD.out, HX.out]; rfl, bel.trans (hbl.mono bel.size)⟩

end Go.Proofs.Ytlifkfemdknndaa
