/-
  The law FnReqSlave, walked, by what ReqSlave of the program answers.
-/
import Derived.Test.YtdjmjdljgdagcaaProg
import Derived.Test.YtdjmjdljgdagcaaWReqSame
import Derived.Test.YtdjmjdljgdagcaaBurst
import Derived.Test.YtdjmjdljgdagcaaImplU
import Derived.BigQuiet
namespace Go.Proofs.Ytdjmjdljgdagcaa
open Go.RowKit
set_option linter.unusedSimpArgs false
set_option linter.unusedVariables false

theorem RowOf.at0 {w : World} {b : Nat} {xs : List Rng} (h : RowOf w (some ⟨b, 0, none⟩) xs) (k : Nat) (hk : k < xs.length) :
    w.cell? ⟨b, k * 4, none⟩ = some (.int .i64 xs[k].fr) ∧ w.cell? ⟨b, k * 4 + 1, none⟩ = some (.int .i64 xs[k].tt) ∧ w.cell? ⟨b, k * 4 + 2, none⟩ = some (.int .i64 xs[k].sl) ∧ w.cell? ⟨b, k * 4 + 3, none⟩ = some (.bool xs[k].only) := by
  rcases h with h | ⟨b', off, h1, h2, h3⟩
  · subst h; simp at hk
  · cases h1
    simpa using h3 k hk

/-- how many of the first are in a range -/
def cntR (g : Rng) (l : List Int) (j : Nat) : Nat := (l.take j).countP (inRngB g)
theorem cntR_le (g : Rng) (l : List Int) (j : Nat) : cntR g l j ≤ j := Nat.le_trans List.countP_le_length (by simp; omega)
theorem cntR_step (g : Rng) (l : List Int) (j : Nat) (h : j < l.length) : cntR g l (j + 1) = cntR g l j + (if inRngB g l[j] = true then 1 else 0) := by
  unfold cntR
  rw [List.take_succ_eq_append_getElem h, List.countP_append]
  simp [List.countP_cons]
theorem cntR_all (g : Rng) (l : List Int) : (((cntR g l l.length : Nat) : Int) == ((l.length : Nat) : Int)) = allInR g l := by
  unfold cntR allInR
  rw [List.take_length, Bool.eq_iff_iff]
  simp only [beq_iff_eq, List.all_eq_true]
  rw [← List.countP_eq_length]
  omega

theorem burst_head {x m : Int} {wrap : Bool} (h : adrOkB x m wrap = true) : x ∈ burst x m wrap := by
  rw [burst_ok h]
  obtain ⟨h1, h2, h3, h4⟩ := (adrOk_iff x m wrap).1 h
  refine List.mem_map.2 ⟨0, by simp; omega, ?_⟩
  cases wrap <;> simp [burstAt] <;> rcases h3 with rfl | rfl | rfl <;> omega
theorem find_only {ms : List Rng} (hok : mapOkB ms = true) {j : Nat} (hj : j < ms.length) {x : Int} (hx : inRngB ms[j] x = true) : mapFindZ ms x = ms[j].sl := by
  have h1 := findAt_only ((mapOk_iff ms).1 hok).2.2 hj hx
  rcases findAt_spec x ms 0 with ⟨h, _⟩ | ⟨i, hi, h, h2, _⟩
  · omega
  · have : i = j := by omega
    subst this; exact h2
theorem slave_hit {ms : List Rng} {r : Req} (h1 : mapOkB ms = true) (h2 : reqOkB r = true) {k : Nat} (hk : k < ms.length) (hn : rgFirst (ms.take k) (burst r.addr r.many r.wrap) = none) (ha : allInR ms[k] (burst r.addr r.many r.wrap) = true) :
    reqSlaveZ ms r = ms[k].sl ∧ mapFindZ ms r.addr = ms[k].sl := by
  rw [slave_rg h1 h2, rg_hit hk hn ha]
  refine ⟨rfl, find_only h1 hk ?_⟩
  exact List.all_eq_true.1 ha _ (burst_head (req_adr h2))
theorem slave_end {ms : List Rng} {r : Req} (h1 : mapOkB ms = true) (h2 : reqOkB r = true) {k : Nat} (hk : ms.length ≤ k) (hn : rgFirst (ms.take k) (burst r.addr r.many r.wrap) = none) : reqSlaveZ ms r = 3 := by
  rw [slave_rg h1 h2, rg_none hk hn]

set_option maxRecDepth 100000 in
set_option maxHeartbeats 4000000 in
theorem walkC_FnReqSlave (hI : ReqSlaveC) (a : Option Addr) (len cap : Nat) (w : World) (hc : len ≤ cap) (hm : cap ≤ 9223372036854775807) (h : Bytes w w.heap.size a len) :
    Calls Try.prog 5 #[.slice a len cap] w fun e w' => e = .returned (.bool true) ∧ Below w.heap.size w w' := by
  by_cases hl : 1048576 < len
  · have hI1 : (1048576 : Int) < (len : Int) := by omega
    clear h hI
    go_enter Try.func5, Try.ntmps5
    go_wp2
    go_ret
    exact ⟨rfl, Below.refl _ _⟩
  have hI1 : ¬ (1048576 : Int) < (len : Int) := by omega
  have HB := Hid.intro h
  have HC := Hid.intro hI
  clear h hI
  go_enter Try.func5, Try.ntmps5
  go_wp2_with fail
  refine (drawReqSlave_any a len cap w hc hm HB.out).mono ?_
  rintro e w1 ⟨b, c, ms, r, pd, cd, pl, cl, rfl, hM1, hmc, hmm, hm1, hm7, hA1, hl1, hl2, hb1⟩
  obtain ⟨id, kind, addr, many, wrap, data, lanes⟩ := r
  have hs1 := hb1.size
  have H1 := Hid.intro (fun W h1 h2 => HC.out (some ⟨b, 0, none⟩) c ms ⟨id, kind, addr, many, wrap, data, lanes⟩ pd pl cd cl W h1 hmc hmm h2)
  have H2 := Hid.intro (fun W h1 h2 => spec_ReqSlave (some ⟨b, 0, none⟩) c ms ⟨id, kind, addr, many, wrap, data, lanes⟩ pd pl cd cl W h1 hmc hmm h2)
  unfold reqV at H1 H2 ⊢
  simp only at hl1 hl2
  have hba := below_new w1
  go_wp2_with fail
  refine (H1.out _ (hM1.below (hba _)) (hA1.below (hba _))).mono ?_
  rintro e w2 ⟨rfl, hb2⟩
  have hs2 := hb2.size
  simp at hs2
  have hbox2 : w2.heap[w1.heap.size]? = some (.cells #[.int .i64 id, .int .i64 kind, .int .i64 addr, .int .i64 many, .bool wrap, (.slice pd data.length cd), (.slice pl lanes.length cl)] 33 (0, 0)) := (hb2.block w1.heap.size (by simp)).trans (at_new _ rfl)
  have hb2' := (hb1.trans ((hba _).mono hb1.size)).trans (hb2.mono (by simp; omega))
  have hA2 := (hA1.below (hba _)).below hb2
  have hM2 := (hM1.below (hba _)).below hb2
  obtain ⟨A, hA⟩ : ∃ A, A = w1.heap.size := ⟨_, rfl⟩
  rw [← hA] at hs2 hbox2 ⊢
  clear hA hb2 hA1 hM1 hb1 hs1 hba
  have c0 : w2.cell? ⟨A, 0, none⟩ = some (.int .i64 id) := heap_cell hbox2 0
  have c1 : w2.cell? ⟨A, 1, none⟩ = some (.int .i64 kind) := heap_cell hbox2 1
  have c2 : w2.cell? ⟨A, 2, none⟩ = some (.int .i64 addr) := heap_cell hbox2 2
  have c3 : w2.cell? ⟨A, 3, none⟩ = some (.int .i64 many) := heap_cell hbox2 3
  have c4 : w2.cell? ⟨A, 4, none⟩ = some (.bool wrap) := heap_cell hbox2 4
  have c5 : w2.cell? ⟨A, 5, none⟩ = some (.slice pd data.length cd) := heap_cell hbox2 5
  have c6 : w2.cell? ⟨A, 6, none⟩ = some (.slice pl lanes.length cl) := heap_cell hbox2 6
  go_wp2_with fail
  refine (H2.out w2 hM2 hA2).mono ?_
  rintro e w3 ⟨rfl, hb3⟩
  have hs3 := hb3.size
  have hbox3 := (hb3.block A (by omega)).trans hbox2
  have hA3 := hA2.below hb3
  have hM3 := hM2.below hb3
  have hb3' := hb2'.trans (hb3.mono hb2'.size)
  have hAl : A < w3.heap.size := by omega
  clear hb3 c0 c1 c2 c3 c4 c5 c6 hb2' hA2 hM2 hbox2 H1 H2
  have c0 : w3.cell? ⟨A, 0, none⟩ = some (.int .i64 id) := heap_cell hbox3 0
  have c1 : w3.cell? ⟨A, 1, none⟩ = some (.int .i64 kind) := heap_cell hbox3 1
  have c2 : w3.cell? ⟨A, 2, none⟩ = some (.int .i64 addr) := heap_cell hbox3 2
  have c3 : w3.cell? ⟨A, 3, none⟩ = some (.int .i64 many) := heap_cell hbox3 3
  have c4 : w3.cell? ⟨A, 4, none⟩ = some (.bool wrap) := heap_cell hbox3 4
  have c5 : w3.cell? ⟨A, 5, none⟩ = some (.slice pd data.length cd) := heap_cell hbox3 5
  have c6 : w3.cell? ⟨A, 6, none⟩ = some (.slice pl lanes.length cl) := heap_cell hbox3 6
  have HQ3 := Hid.intro (fun h => spec_ReqOk ⟨id, kind, addr, many, wrap, data, lanes⟩ pd pl cd cl h)
  unfold reqV at HQ3
  go_wp2_with fail
  refine (spec_MapOk (some ⟨b, 0, none⟩) c ms w3 hM3 hmc hmm).mono ?_
  rintro e w4 ⟨rfl, hb4⟩
  have hs4 := hb4.size
  have hbox4 := (hb4.block A (by omega)).trans hbox3
  have hA4 := hA3.below hb4
  have hM4 := hM3.below hb4
  have hb4' := hb3'.trans (hb4.mono hb3'.size)
  clear hb4 c0 c1 c2 c3 c4 c5 c6 hb3' hA3 hM3 hbox3
  have c0 : w4.cell? ⟨A, 0, none⟩ = some (.int .i64 id) := heap_cell hbox4 0
  have c1 : w4.cell? ⟨A, 1, none⟩ = some (.int .i64 kind) := heap_cell hbox4 1
  have c2 : w4.cell? ⟨A, 2, none⟩ = some (.int .i64 addr) := heap_cell hbox4 2
  have c3 : w4.cell? ⟨A, 3, none⟩ = some (.int .i64 many) := heap_cell hbox4 3
  have c4 : w4.cell? ⟨A, 4, none⟩ = some (.bool wrap) := heap_cell hbox4 4
  have c5 : w4.cell? ⟨A, 5, none⟩ = some (.slice pd data.length cd) := heap_cell hbox4 5
  have c6 : w4.cell? ⟨A, 6, none⟩ = some (.slice pl lanes.length cl) := heap_cell hbox4 6
  cases hok : mapOkB ms
  · rw [slave_no (ms := ms) (.inl hok)]
    clear hA4 hM4
    go_wp2_with (go_at_call 19; refine (crOk_any _).mono ?_; rintro e w' ⟨rfl, rfl⟩)
    go_ret
    exact ⟨rfl, hb4'⟩
  go_wp2_with fail
  refine (HQ3.out w4 hA4).mono ?_
  rintro e w5 ⟨rfl, hb5⟩
  have hs5 := hb5.size
  have hbox5 := (hb5.block A (by omega)).trans hbox4
  have hM5 := hM4.below hb5
  have hb5' := hb4'.trans (hb5.mono hb4'.size)
  clear hb5 c0 c1 c2 c3 c4 c5 c6 hb4' hA4 hM4 hbox4 HQ3
  cases hrq : reqOkB ⟨id, kind, addr, many, wrap, data, lanes⟩
  · rw [slave_no (ms := ms) (.inr hrq)]
    clear hM5
    go_wp2_with (go_at_call 19; refine (crOk_any _).mono ?_; rintro e w' ⟨rfl, rfl⟩)
    go_ret
    exact ⟨rfl, hb5'⟩
  have HH := Hid.intro (fun k (hk : k < ms.length) h1 h2 => slave_hit hok hrq (k := k) hk h1 h2)
  have HN := Hid.intro (fun k hk h1 => slave_end hok hrq (k := k) hk h1)
  simp only at HH HN
  generalize reqSlaveZ ms ⟨id, kind, addr, many, wrap, data, lanes⟩ = n at HH HN ⊢
  clear hok hrq
  have c2 : w5.cell? ⟨A, 2, none⟩ = some (.int .i64 addr) := heap_cell hbox5 2
  have c3 : w5.cell? ⟨A, 3, none⟩ = some (.int .i64 many) := heap_cell hbox5 3
  have c4 : w5.cell? ⟨A, 4, none⟩ = some (.bool wrap) := heap_cell hbox5 4
  go_wp2_with fail
  refine (impl_AdrBurst addr many wrap w5).mono ?_
  rintro e w6 ⟨p, cp, rfl, hi6, _, hcp, hcm, hb6, _⟩
  have hs6 := hb6.size
  have hbox6 := (hb6.block A (by omega)).trans hbox5
  have hM6 := hM5.below hb6
  have hb6' := hb5'.trans (hb6.mono hb5'.size)
  clear hb6 c2 c3 c4 hb5' hM5 hbox5
  generalize burst addr many wrap = l at HH HN hi6 hcp ⊢
  have HI := Hid.intro hi6
  have HM := Hid.intro hM6
  clear hi6 hM6
  go_wp2_with fail
  go_loopw [7] (fun i wr => ∃ k : Nat, k ≤ ms.length ∧ i = .int .i64 k ∧ Below w6.heap.size w6 wr ∧ Hid (rgFirst (ms.take k) l = none)) (fun i _ => ms.length - (intOf i).toNat)
  case atStart => exact ⟨0, Nat.zero_le _, rfl, Below.refl _ _, rfl⟩
  case round =>
    obtain ⟨k, hk, rfl, hbr, HF⟩ := hrel
    by_cases hlt : k < ms.length
    · have hk1 : (k : Int) < (ms.length : Int) := by omega
      have hk0 : (0 : Int) ≤ (k : Int) := by omega
      have HC1 := Hid.intro (cntR_all ms[k] l)
      go_wp2_with fail
      go_loopw [8, 9] (fun c i wr' => ∃ j : Nat, j ≤ l.length ∧ i = .int .i64 j ∧ c = .int .i64 (cntR ms[k] l j : Nat) ∧ Below w6.heap.size w6 wr') (fun _ i _ => l.length - (intOf i).toNat)
      case atStart => exact ⟨0, Nat.zero_le _, rfl, rfl, hbr⟩
      case round =>
        clear hbr
        obtain ⟨j, hj, rfl, rfl, hbj⟩ := hrel
        by_cases hjl : j < l.length
        · have hj1 : (j : Int) < (l.length : Int) := by omega
          have hj0 : (0 : Int) ≤ (j : Int) := by omega
          rcases (HI.out.below hbj) with hx | ⟨blk, off, rfl, hb, hcells⟩
          · rw [hx] at hjl; simp at hjl
          have hcj := hcells j hjl
          obtain ⟨g0, g1, g2, g3⟩ := (HM.out.below hbj).at0 k hlt
          have hst := cntR_step ms[k] l j hjl
          have hle := cntR_le ms[k] l j
          clear hcells HI
          generalize hv : l[j] = v at hcj hst
          generalize cntR ms[k] l j = ct at hst hle ⊢
          clear hv
          by_cases m1 : ms[k].fr ≤ v
          · by_cases m2 : v ≤ ms[k].tt
            · have hin : inRngB ms[k] v = true := by simp [inRngB]; omega
              rw [hin, if_pos rfl] at hst
              have HST := Hid.intro hst
              clear hst
              go_wp2_with fail
              go_quiet (fail)
              go_wp2
              go_roundw
              case rel => exact ⟨j + 1, by omega, by go_num, by rw [HST.out]; go_num, below_drewN hbj nq⟩
              case measure => simp [intOf]; omega
            · have hin : inRngB ms[k] v = false := by simp [inRngB]; omega
              have n2 : decide (v ≤ ms[k].tt) = false := by simpa using m2
              rw [hin, if_neg (by simp), Nat.add_zero] at hst
              have HST := Hid.intro hst
              clear hst
              go_wp2_with fail
              go_quiet (fail)
              go_wp2
              go_roundw
              case rel => exact ⟨j + 1, by omega, by go_num, by rw [HST.out]; first | rfl | go_num, below_drewN hbj nq⟩
              case measure => simp [intOf]; omega
          · have hin : inRngB ms[k] v = false := by simp [inRngB]; omega
            have n1 : decide (ms[k].fr ≤ v) = false := by simpa using m1
            rw [hin, if_neg (by simp), Nat.add_zero] at hst
            have HST := Hid.intro hst
            clear hst
            go_wp2_with fail
            go_quiet (fail)
            go_wp2
            go_roundw
            case rel => exact ⟨j + 1, by omega, by go_num, by rw [HST.out]; first | rfl | go_num, below_drewN hbj nq⟩
            case measure => simp [intOf]; omega
        · have hje : j = l.length := by omega
          subst hje
          cases hall : allInR ms[k] l
          · have HFN := Hid.intro (rg_step hlt HF.out hall)
            have hc : (((cntR ms[k] l l.length : Nat) : Int) == ((l.length : Nat) : Int)) = false := by rw [HC1.out, hall]
            go_wp2
            go_roundw
            case rel => exact ⟨k + 1, by omega, by go_num, hbj, HFN⟩
            case measure => simp [intOf]; omega
          · have hc : (((cntR ms[k] l l.length : Nat) : Int) == ((l.length : Nat) : Int)) = true := by rw [HC1.out, hall]
            obtain ⟨e1, e2⟩ := HH.out k hlt HF.out hall
            obtain ⟨g0, g1, g2, g3⟩ := (HM.out.below hbj).at0 k hlt
            have hbox := (hbj.block A (by omega)).trans hbox6
            have c2 : wr.cell? ⟨A, 2, none⟩ = some (.int .i64 addr) := heap_cell hbox 2
            rw [e1]
            have E2 := Hid.intro e2
            clear e1 e2 hbox
            go_wp2_with fail
            refine (impl_MapFind (some ⟨b, 0, none⟩) c ms addr _ (HM.out.below hbj) hmc hmm).mono ?_
            rintro e w7 ⟨rfl, hb7⟩
            rw [E2.out]
            have hb7' := hb6'.trans ((hbj.trans (hb7.mono hbj.size)).mono hb6'.size)
            go_wp2
            go_ret
            exact ⟨by simp, hb7'⟩
    · have e3 := HN.out k (by omega) HF.out
      have hk1 : ¬ (k : Int) < (ms.length : Int) := by omega
      rw [e3]
      go_wp2
      go_ret
      exact ⟨rfl, hb6'.trans (hbr.mono hb6'.size)⟩

end Go.Proofs.Ytdjmjdljgdagcaa
