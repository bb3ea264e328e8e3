/-
  The law FnMapOnly, walked, by what ReqSlave of the program answers.
-/
import Derived.Test.YtdjmjdljgdagcaaProg
import Derived.Test.YtdjmjdljgdagcaaWReqSame
import Derived.Test.YtdjmjdljgdagcaaBurst
import Derived.Test.YtdjmjdljgdagcaaImplU
import Derived.BigQuiet
import Derived.Test.YtdjmjdljgdagcaaMapC
import Derived.Test.YtdjmjdljgdagcaaAppR
import Derived.Test.YtdjmjdljgdagcaaPureM
import Derived.Test.YtdjmjdljgdagcaaDet
/-
  The law FnReqSlave, walked, by what ReqSlave of the program answers.
-/
namespace Go.Proofs.Ytdjmjdljgdagcaa
open Go.RowKit
set_option linter.unusedSimpArgs false
set_option linter.unusedVariables false

theorem RowOf.at0 {w : World} {b : Nat} {xs : List Rng} (h : RowOf w (some ⟨b, 0, none⟩) xs) (k : Nat) (hk : k < xs.length) :
    w.cell? ⟨b, k * 4, none⟩ = some (.int .i64 xs[k].fr) ∧ w.cell? ⟨b, k * 4 + 1, none⟩ = some (.int .i64 xs[k].tt) ∧ w.cell? ⟨b, k * 4 + 2, none⟩ = some (.int .i64 xs[k].sl) ∧ w.cell? ⟨b, k * 4 + 3, none⟩ = some (.bool xs[k].only) := by
  rcases h with h | ⟨b', off, h1, h2, h3⟩
  · subst h; simp at hk
  · cases h1
    simpa using h3 k hk

/-- how many of the first are in a range -/
def cntR (g : Rng) (l : List Int) (j : Nat) : Nat := (l.take j).countP (inRngB g)
theorem cntR_le (g : Rng) (l : List Int) (j : Nat) : cntR g l j ≤ j := Nat.le_trans List.countP_le_length (by simp; omega)
theorem cntR_step (g : Rng) (l : List Int) (j : Nat) (h : j < l.length) : cntR g l (j + 1) = cntR g l j + (if inRngB g l[j] = true then 1 else 0) := by
  unfold cntR
  rw [List.take_succ_eq_append_getElem h, List.countP_append]
  simp [List.countP_cons]
theorem cntR_all (g : Rng) (l : List Int) : (((cntR g l l.length : Nat) : Int) == ((l.length : Nat) : Int)) = allInR g l := by
  unfold cntR allInR
  rw [List.take_length, Bool.eq_iff_iff]
  simp only [beq_iff_eq, List.all_eq_true]
  rw [← List.countP_eq_length]
  omega

theorem burst_head {x m : Int} {wrap : Bool} (h : adrOkB x m wrap = true) : x ∈ burst x m wrap := by
  rw [burst_ok h]
  obtain ⟨h1, h2, h3, h4⟩ := (adrOk_iff x m wrap).1 h
  refine List.mem_map.2 ⟨0, by simp; omega, ?_⟩
  cases wrap <;> simp [burstAt] <;> rcases h3 with rfl | rfl | rfl <;> omega
theorem find_only {ms : List Rng} (hok : mapOkB ms = true) {j : Nat} (hj : j < ms.length) {x : Int} (hx : inRngB ms[j] x = true) : mapFindZ ms x = ms[j].sl := by
  have h1 := findAt_only ((mapOk_iff ms).1 hok).2.2 hj hx
  rcases findAt_spec x ms 0 with ⟨h, _⟩ | ⟨i, hi, h, h2, _⟩
  · omega
  · have : i = j := by omega
    subst this; exact h2
theorem slave_hit {ms : List Rng} {r : Req} (h1 : mapOkB ms = true) (h2 : reqOkB r = true) {k : Nat} (hk : k < ms.length) (hn : rgFirst (ms.take k) (burst r.addr r.many r.wrap) = none) (ha : allInR ms[k] (burst r.addr r.many r.wrap) = true) :
    reqSlaveZ ms r = ms[k].sl ∧ mapFindZ ms r.addr = ms[k].sl := by
  rw [slave_rg h1 h2, rg_hit hk hn ha]
  refine ⟨rfl, find_only h1 hk ?_⟩
  exact List.all_eq_true.1 ha _ (burst_head (req_adr h2))
theorem slave_end {ms : List Rng} {r : Req} (h1 : mapOkB ms = true) (h2 : reqOkB r = true) {k : Nat} (hk : ms.length ≤ k) (hn : rgFirst (ms.take k) (burst r.addr r.many r.wrap) = none) : reqSlaveZ ms r = 3 := by
  rw [slave_rg h1 h2, rg_none hk hn]

set_option maxRecDepth 100000 in
set_option maxHeartbeats 4000000 in
theorem walkC_FnReqSlave (hI : ReqSlaveC) (a : Option Addr) (len cap : Nat) (w : World) (hc : len ≤ cap) (hm : cap ≤ 9223372036854775807) (h : Bytes w w.heap.size a len) :
    Calls Try.prog 5 #[.slice a len cap] w fun e w' => e = .returned (.bool true) ∧ Below w.heap.size w w' := by
  by_cases hl : 1048576 < len
  · have hI1 : (1048576 : Int) < (len : Int) := by omega
    clear h hI
    go_enter Try.func5, Try.ntmps5
    go_wp2
    go_ret
    exact ⟨rfl, Below.refl _ _⟩
  have hI1 : ¬ (1048576 : Int) < (len : Int) := by omega
  have HB := Hid.intro h
  have HC := Hid.intro hI
  clear h hI
  go_enter Try.func5, Try.ntmps5
  go_wp2_with fail
  refine (drawReqSlave_any a len cap w hc hm HB.out).mono ?_
  rintro e w1 ⟨b, c, ms, r, pd, cd, pl, cl, rfl, hM1, hmc, hmm, hm1, hm7, hA1, hl1, hl2, hb1⟩
  obtain ⟨id, kind, addr, many, wrap, data, lanes⟩ := r
  have hs1 := hb1.size
  have H1 := Hid.intro (fun W h1 h2 => HC.out (some ⟨b, 0, none⟩) c ms ⟨id, kind, addr, many, wrap, data, lanes⟩ pd pl cd cl W h1 hmc hmm h2)
  have H2 := Hid.intro (fun W h1 h2 => spec_ReqSlave (some ⟨b, 0, none⟩) c ms ⟨id, kind, addr, many, wrap, data, lanes⟩ pd pl cd cl W h1 hmc hmm h2)
  unfold reqV at H1 H2 ⊢
  simp only at hl1 hl2
  have hba := below_new w1
  go_wp2_with fail
  refine (H1.out _ (hM1.below (hba _)) (hA1.below (hba _))).mono ?_
  rintro e w2 ⟨rfl, hb2⟩
  have hs2 := hb2.size
  simp at hs2
  have hbox2 : w2.heap[w1.heap.size]? = some (.cells #[.int .i64 id, .int .i64 kind, .int .i64 addr, .int .i64 many, .bool wrap, (.slice pd data.length cd), (.slice pl lanes.length cl)] 33 (0, 0)) := (hb2.block w1.heap.size (by simp)).trans (at_new _ rfl)
  have hb2' := (hb1.trans ((hba _).mono hb1.size)).trans (hb2.mono (by simp; omega))
  have hA2 := (hA1.below (hba _)).below hb2
  have hM2 := (hM1.below (hba _)).below hb2
  obtain ⟨A, hA⟩ : ∃ A, A = w1.heap.size := ⟨_, rfl⟩
  rw [← hA] at hs2 hbox2 ⊢
  clear hA hb2 hA1 hM1 hb1 hs1 hba
  have c0 : w2.cell? ⟨A, 0, none⟩ = some (.int .i64 id) := heap_cell hbox2 0
  have c1 : w2.cell? ⟨A, 1, none⟩ = some (.int .i64 kind) := heap_cell hbox2 1
  have c2 : w2.cell? ⟨A, 2, none⟩ = some (.int .i64 addr) := heap_cell hbox2 2
  have c3 : w2.cell? ⟨A, 3, none⟩ = some (.int .i64 many) := heap_cell hbox2 3
  have c4 : w2.cell? ⟨A, 4, none⟩ = some (.bool wrap) := heap_cell hbox2 4
  have c5 : w2.cell? ⟨A, 5, none⟩ = some (.slice pd data.length cd) := heap_cell hbox2 5
  have c6 : w2.cell? ⟨A, 6, none⟩ = some (.slice pl lanes.length cl) := heap_cell hbox2 6
  go_wp2_with fail
  refine (H2.out w2 hM2 hA2).mono ?_
  rintro e w3 ⟨rfl, hb3⟩
  have hs3 := hb3.size
  have hbox3 := (hb3.block A (by omega)).trans hbox2
  have hA3 := hA2.below hb3
  have hM3 := hM2.below hb3
  have hb3' := hb2'.trans (hb3.mono hb2'.size)
  have hAl : A < w3.heap.size := by omega
  clear hb3 c0 c1 c2 c3 c4 c5 c6 hb2' hA2 hM2 hbox2 H1 H2
  have c0 : w3.cell? ⟨A, 0, none⟩ = some (.int .i64 id) := heap_cell hbox3 0
  have c1 : w3.cell? ⟨A, 1, none⟩ = some (.int .i64 kind) := heap_cell hbox3 1
  have c2 : w3.cell? ⟨A, 2, none⟩ = some (.int .i64 addr) := heap_cell hbox3 2
  have c3 : w3.cell? ⟨A, 3, none⟩ = some (.int .i64 many) := heap_cell hbox3 3
  have c4 : w3.cell? ⟨A, 4, none⟩ = some (.bool wrap) := heap_cell hbox3 4
  have c5 : w3.cell? ⟨A, 5, none⟩ = some (.slice pd data.length cd) := heap_cell hbox3 5
  have c6 : w3.cell? ⟨A, 6, none⟩ = some (.slice pl lanes.length cl) := heap_cell hbox3 6
  have HQ3 := Hid.intro (fun h => spec_ReqOk ⟨id, kind, addr, many, wrap, data, lanes⟩ pd pl cd cl h)
  unfold reqV at HQ3
  go_wp2_with fail
  refine (spec_MapOk (some ⟨b, 0, none⟩) c ms w3 hM3 hmc hmm).mono ?_
  rintro e w4 ⟨rfl, hb4⟩
  have hs4 := hb4.size
  have hbox4 := (hb4.block A (by omega)).trans hbox3
  have hA4 := hA3.below hb4
  have hM4 := hM3.below hb4
  have hb4' := hb3'.trans (hb4.mono hb3'.size)
  clear hb4 c0 c1 c2 c3 c4 c5 c6 hb3' hA3 hM3 hbox3
  have c0 : w4.cell? ⟨A, 0, none⟩ = some (.int .i64 id) := heap_cell hbox4 0
  have c1 : w4.cell? ⟨A, 1, none⟩ = some (.int .i64 kind) := heap_cell hbox4 1
  have c2 : w4.cell? ⟨A, 2, none⟩ = some (.int .i64 addr) := heap_cell hbox4 2
  have c3 : w4.cell? ⟨A, 3, none⟩ = some (.int .i64 many) := heap_cell hbox4 3
  have c4 : w4.cell? ⟨A, 4, none⟩ = some (.bool wrap) := heap_cell hbox4 4
  have c5 : w4.cell? ⟨A, 5, none⟩ = some (.slice pd data.length cd) := heap_cell hbox4 5
  have c6 : w4.cell? ⟨A, 6, none⟩ = some (.slice pl lanes.length cl) := heap_cell hbox4 6
  cases hok : mapOkB ms
  · rw [slave_no (ms := ms) (.inl hok)]
    clear hA4 hM4
    go_wp2_with (go_at_call 19; refine (crOk_any _).mono ?_; rintro e w' ⟨rfl, rfl⟩)
    go_ret
    exact ⟨rfl, hb4'⟩
  go_wp2_with fail
  refine (HQ3.out w4 hA4).mono ?_
  rintro e w5 ⟨rfl, hb5⟩
  have hs5 := hb5.size
  have hbox5 := (hb5.block A (by omega)).trans hbox4
  have hM5 := hM4.below hb5
  have hb5' := hb4'.trans (hb5.mono hb4'.size)
  clear hb5 c0 c1 c2 c3 c4 c5 c6 hb4' hA4 hM4 hbox4 HQ3
  cases hrq : reqOkB ⟨id, kind, addr, many, wrap, data, lanes⟩
  · rw [slave_no (ms := ms) (.inr hrq)]
    clear hM5
    go_wp2_with (go_at_call 19; refine (crOk_any _).mono ?_; rintro e w' ⟨rfl, rfl⟩)
    go_ret
    exact ⟨rfl, hb5'⟩
  have HH := Hid.intro (fun k (hk : k < ms.length) h1 h2 => slave_hit hok hrq (k := k) hk h1 h2)
  have HN := Hid.intro (fun k hk h1 => slave_end hok hrq (k := k) hk h1)
  simp only at HH HN
  generalize reqSlaveZ ms ⟨id, kind, addr, many, wrap, data, lanes⟩ = n at HH HN ⊢
  clear hok hrq
  have c2 : w5.cell? ⟨A, 2, none⟩ = some (.int .i64 addr) := heap_cell hbox5 2
  have c3 : w5.cell? ⟨A, 3, none⟩ = some (.int .i64 many) := heap_cell hbox5 3
  have c4 : w5.cell? ⟨A, 4, none⟩ = some (.bool wrap) := heap_cell hbox5 4
  go_wp2_with fail
  refine (impl_AdrBurst addr many wrap w5).mono ?_
  rintro e w6 ⟨p, cp, rfl, hi6, _, hcp, hcm, hb6, _⟩
  have hs6 := hb6.size
  have hbox6 := (hb6.block A (by omega)).trans hbox5
  have hM6 := hM5.below hb6
  have hb6' := hb5'.trans (hb6.mono hb5'.size)
  clear hb6 c2 c3 c4 hb5' hM5 hbox5
  generalize burst addr many wrap = l at HH HN hi6 hcp ⊢
  have HI := Hid.intro hi6
  have HM := Hid.intro hM6
  clear hi6 hM6
  go_wp2_with fail
  go_loopw [7] (fun i wr => ∃ k : Nat, k ≤ ms.length ∧ i = .int .i64 k ∧ Below w6.heap.size w6 wr ∧ Hid (rgFirst (ms.take k) l = none)) (fun i _ => ms.length - (intOf i).toNat)
  case atStart => exact ⟨0, Nat.zero_le _, rfl, Below.refl _ _, rfl⟩
  case round =>
    obtain ⟨k, hk, rfl, hbr, HF⟩ := hrel
    by_cases hlt : k < ms.length
    · have hk1 : (k : Int) < (ms.length : Int) := by omega
      have hk0 : (0 : Int) ≤ (k : Int) := by omega
      have HC1 := Hid.intro (cntR_all ms[k] l)
      go_wp2_with fail
      go_loopw [8, 9] (fun c i wr' => ∃ j : Nat, j ≤ l.length ∧ i = .int .i64 j ∧ c = .int .i64 (cntR ms[k] l j : Nat) ∧ Below w6.heap.size w6 wr') (fun _ i _ => l.length - (intOf i).toNat)
      case atStart => exact ⟨0, Nat.zero_le _, rfl, rfl, hbr⟩
      case round =>
        clear hbr
        obtain ⟨j, hj, rfl, rfl, hbj⟩ := hrel
        by_cases hjl : j < l.length
        · have hj1 : (j : Int) < (l.length : Int) := by omega
          have hj0 : (0 : Int) ≤ (j : Int) := by omega
          rcases (HI.out.below hbj) with hx | ⟨blk, off, rfl, hb, hcells⟩
          · rw [hx] at hjl; simp at hjl
          have hcj := hcells j hjl
          obtain ⟨g0, g1, g2, g3⟩ := (HM.out.below hbj).at0 k hlt
          have hst := cntR_step ms[k] l j hjl
          have hle := cntR_le ms[k] l j
          clear hcells HI
          generalize hv : l[j] = v at hcj hst
          generalize cntR ms[k] l j = ct at hst hle ⊢
          clear hv
          by_cases m1 : ms[k].fr ≤ v
          · by_cases m2 : v ≤ ms[k].tt
            · have hin : inRngB ms[k] v = true := by simp [inRngB]; omega
              rw [hin, if_pos rfl] at hst
              have HST := Hid.intro hst
              clear hst
              go_wp2_with fail
              go_quiet (fail)
              go_wp2
              go_roundw
              case rel => exact ⟨j + 1, by omega, by go_num, by rw [HST.out]; go_num, below_drewN hbj nq⟩
              case measure => simp [intOf]; omega
            · have hin : inRngB ms[k] v = false := by simp [inRngB]; omega
              have n2 : decide (v ≤ ms[k].tt) = false := by simpa using m2
              rw [hin, if_neg (by simp), Nat.add_zero] at hst
              have HST := Hid.intro hst
              clear hst
              go_wp2_with fail
              go_quiet (fail)
              go_wp2
              go_roundw
              case rel => exact ⟨j + 1, by omega, by go_num, by rw [HST.out]; first | rfl | go_num, below_drewN hbj nq⟩
              case measure => simp [intOf]; omega
          · have hin : inRngB ms[k] v = false := by simp [inRngB]; omega
            have n1 : decide (ms[k].fr ≤ v) = false := by simpa using m1
            rw [hin, if_neg (by simp), Nat.add_zero] at hst
            have HST := Hid.intro hst
            clear hst
            go_wp2_with fail
            go_quiet (fail)
            go_wp2
            go_roundw
            case rel => exact ⟨j + 1, by omega, by go_num, by rw [HST.out]; first | rfl | go_num, below_drewN hbj nq⟩
            case measure => simp [intOf]; omega
        · have hje : j = l.length := by omega
          subst hje
          cases hall : allInR ms[k] l
          · have HFN := Hid.intro (rg_step hlt HF.out hall)
            have hc : (((cntR ms[k] l l.length : Nat) : Int) == ((l.length : Nat) : Int)) = false := by rw [HC1.out, hall]
            go_wp2
            go_roundw
            case rel => exact ⟨k + 1, by omega, by go_num, hbj, HFN⟩
            case measure => simp [intOf]; omega
          · have hc : (((cntR ms[k] l l.length : Nat) : Int) == ((l.length : Nat) : Int)) = true := by rw [HC1.out, hall]
            obtain ⟨e1, e2⟩ := HH.out k hlt HF.out hall
            obtain ⟨g0, g1, g2, g3⟩ := (HM.out.below hbj).at0 k hlt
            have hbox := (hbj.block A (by omega)).trans hbox6
            have c2 : wr.cell? ⟨A, 2, none⟩ = some (.int .i64 addr) := heap_cell hbox 2
            rw [e1]
            have E2 := Hid.intro e2
            clear e1 e2 hbox
            go_wp2_with fail
            refine (impl_MapFind (some ⟨b, 0, none⟩) c ms addr _ (HM.out.below hbj) hmc hmm).mono ?_
            rintro e w7 ⟨rfl, hb7⟩
            rw [E2.out]
            have hb7' := hb6'.trans ((hbj.trans (hb7.mono hbj.size)).mono hb6'.size)
            go_wp2
            go_ret
            exact ⟨by simp, hb7'⟩
    · have e3 := HN.out k (by omega) HF.out
      have hk1 : ¬ (k : Int) < (ms.length : Int) := by omega
      rw [e3]
      go_wp2
      go_ret
      exact ⟨rfl, hb6'.trans (hbr.mono hb6'.size)⟩

end Go.Proofs.Ytdjmjdljgdagcaa

namespace Go.Proofs.Ytdjmjdljgdagcaa
open Go.RowKit
set_option linter.unusedSimpArgs false
set_option linter.unusedVariables false

/-- with what can but be read turned about -/
def flip1 (r : Rng) : Rng := { r with only := !r.only }
def flips (l : List Rng) : List Rng := l.map flip1
theorem mapOk_flips (l : List Rng) : mapOkB (flips l) = mapOkB l := by
  rw [Bool.eq_iff_iff, mapOk_iff, mapOk_iff]
  simp only [flips, List.length_map, List.pairwise_map]
  refine and_congr Iff.rfl (and_congr ⟨fun h r hr => h (flip1 r) (List.mem_map_of_mem hr), fun h r hr => ?_⟩ Iff.rfl)
  obtain ⟨x, hx, rfl⟩ := List.mem_map.1 hr
  exact h x hx
theorem mapFind_flips : ∀ (l : List Rng) (x : Int), mapFindZ (flips l) x = mapFindZ l x
  | [], _ => rfl
  | r :: l, x => by
    have ih := mapFind_flips l x
    simp only [flips] at ih
    simp only [flips, List.map_cons, mapFindZ, ih]
    rfl
theorem findAt_flips : ∀ (l : List Rng) (x : Int) (k : Nat), findAt (flips l) x k = findAt l x k
  | [], _, _ => rfl
  | r :: l, x, k => by
    have ih := findAt_flips l x (k + 1)
    simp only [flips] at ih
    simp only [flips, List.map_cons, findAt, ih]
    rfl
theorem whole_flips (l : List Rng) (xs : List Int) : wholeZ (flips l) xs = wholeZ l xs := by
  cases xs with
  | nil => rfl
  | cons a xs => simp only [wholeZ, findAt_flips]
theorem slaveAt_flips (l : List Rng) (k : Int) : slaveAt (flips l) k = slaveAt l k := by
  unfold slaveAt flips
  rw [List.getElem?_map]
  cases l[k.toNat]? <;> rfl
theorem slave_flips (l : List Rng) (r : Req) : reqSlaveZ (flips l) r = reqSlaveZ l r := by
  simp only [reqSlaveZ, mapOk_flips, whole_flips, slaveAt_flips]
theorem flips_step {l : List Rng} {k : Nat} (h : k < l.length) : flips (l.take (k + 1)) = flips (l.take k) ++ [flip1 l[k]] := by
  rw [List.take_succ_eq_append_getElem h]
  unfold flips
  rw [List.map_append]
  rfl

theorem rowAt_new {w : World} {cs : Array Value} {xs : List Rng} {g : Nat} (hg : g = w.heap.size) (h : cs = (flat xs).toArray) : WRow (w.alloc (.cells cs 43)) g xs.length xs := by
  subst hg
  exact WRow.new h

theorem wpList_appR {ops : Array Oper} {rest : List Oper} {o : Oper} {a : Act} {Q : Exit → Act → World → Prop} {w : World} {s x b off c M : Nat} (xs ys : List Rng) (hg : o.guard = none)
    (ho : o.op = .call { callee := .builtin .append, args := #[.tmp s, .tmp x], argTypes := #[36, 36] })
    (hs : kW M xs w (a.eval (.tmp s))) (hx : a.eval (.tmp x) = .slice (some ⟨b, off, none⟩) ys.length c) (hY : RowOf w (some ⟨b, off, none⟩) ys)
    (hlen : xs.length + ys.length ≤ 1000) (hMw : M ≤ w.heap.size)
    (h : ∀ v w', kW M (xs ++ ys) w' v → Below M w w' → wpList Try.prog ops Q rest (a.put o.dst v) w') : wpList Try.prog ops Q (o :: rest) a w := by
  refine wpList_plain hg (fun K hK => ?_)
  obtain ⟨v, w', r1, r2, _, r3⟩ := run_app [] ho hs hx hY hlen (by simp) hMw
  unfold Oper.wp
  rw [r1]
  exact hK _ _ (h v w' r2 r3)

set_option maxRecDepth 100000 in
set_option maxHeartbeats 4000000 in
theorem walkC_FnMapOnly (hI : ReqSlaveC) (a : Option Addr) (len cap : Nat) (w : World) (hc : len ≤ cap) (hm : cap ≤ 9223372036854775807) (h : Bytes w w.heap.size a len) :
    Calls Try.prog 7 #[.slice a len cap] w fun e w' => e = .returned (.bool true) ∧ Below w.heap.size w w' := by
  by_cases hl : 1048576 < len
  · have hI1 : (1048576 : Int) < (len : Int) := by omega
    clear h hI
    go_enter Try.func7, Try.ntmps7
    go_wp2
    go_ret
    exact ⟨rfl, Below.refl _ _⟩
  have hI1 : ¬ (1048576 : Int) < (len : Int) := by omega
  have HB := Hid.intro h
  have HC := Hid.intro hI
  clear h hI
  go_enter Try.func7, Try.ntmps7
  go_wp2_with fail
  refine (drawReqSlave_any a len cap w hc hm HB.out).mono ?_
  rintro e w1 ⟨b, c, ms, r, pd, cd, pl, cl, rfl, hM1, hmc, hmm, hm1, hm7, hA1, hl1, hl2, hb1⟩
  obtain ⟨id, kind, addr, many, wrap, data, lanes⟩ := r
  have hs1 := hb1.size
  have H1 := Hid.intro (fun W h1 h2 => HC.out (some ⟨b, 0, none⟩) c ms ⟨id, kind, addr, many, wrap, data, lanes⟩ pd pl cd cl W h1 hmc hmm h2)
  have H2 := Hid.intro (fun W h1 h2 => spec_ReqSlave (some ⟨b, 0, none⟩) c ms ⟨id, kind, addr, many, wrap, data, lanes⟩ pd pl cd cl W h1 hmc hmm h2)
  unfold reqV at H1 H2 ⊢
  simp only at hl1 hl2
  have hba := below_new w1
  go_wp2_with fail
  refine (H1.out _ (hM1.below (hba _)) (hA1.below (hba _))).mono ?_
  rintro e w2 ⟨rfl, hb2⟩
  have hs2 := hb2.size
  simp at hs2
  have hbox2 : w2.heap[w1.heap.size]? = some (.cells #[.int .i64 id, .int .i64 kind, .int .i64 addr, .int .i64 many, .bool wrap, (.slice pd data.length cd), (.slice pl lanes.length cl)] 33 (0, 0)) := (hb2.block w1.heap.size (by simp)).trans (at_new _ rfl)
  have hb2' := (hb1.trans ((hba _).mono hb1.size)).trans (hb2.mono (by simp; omega))
  have hA2 := (hA1.below (hba _)).below hb2
  have hM2 := (hM1.below (hba _)).below hb2
  obtain ⟨A, hA⟩ : ∃ A, A = w1.heap.size := ⟨_, rfl⟩
  rw [← hA] at hs2 hbox2 ⊢
  clear hA hb2 hA1 hM1 hb1 hs1 hba
  have c0 : w2.cell? ⟨A, 0, none⟩ = some (.int .i64 id) := heap_cell hbox2 0
  have c1 : w2.cell? ⟨A, 1, none⟩ = some (.int .i64 kind) := heap_cell hbox2 1
  have c2 : w2.cell? ⟨A, 2, none⟩ = some (.int .i64 addr) := heap_cell hbox2 2
  have c3 : w2.cell? ⟨A, 3, none⟩ = some (.int .i64 many) := heap_cell hbox2 3
  have c4 : w2.cell? ⟨A, 4, none⟩ = some (.bool wrap) := heap_cell hbox2 4
  have c5 : w2.cell? ⟨A, 5, none⟩ = some (.slice pd data.length cd) := heap_cell hbox2 5
  have c6 : w2.cell? ⟨A, 6, none⟩ = some (.slice pl lanes.length cl) := heap_cell hbox2 6
  go_wp2_with fail
  refine (H2.out w2 hM2 hA2).mono ?_
  rintro e w3 ⟨rfl, hb3⟩
  have hs3 := hb3.size
  have hbox3 := (hb3.block A (by omega)).trans hbox2
  have hA3 := hA2.below hb3
  have hM3 := hM2.below hb3
  have hb3' := hb2'.trans (hb3.mono hb2'.size)
  have hAl : A < w3.heap.size := by omega
  clear hb3 c0 c1 c2 c3 c4 c5 c6 hb2' hA2 hM2 hbox2 H1 H2
  have c0 : w3.cell? ⟨A, 0, none⟩ = some (.int .i64 id) := heap_cell hbox3 0
  have c1 : w3.cell? ⟨A, 1, none⟩ = some (.int .i64 kind) := heap_cell hbox3 1
  have c2 : w3.cell? ⟨A, 2, none⟩ = some (.int .i64 addr) := heap_cell hbox3 2
  have c3 : w3.cell? ⟨A, 3, none⟩ = some (.int .i64 many) := heap_cell hbox3 3
  have c4 : w3.cell? ⟨A, 4, none⟩ = some (.bool wrap) := heap_cell hbox3 4
  have c5 : w3.cell? ⟨A, 5, none⟩ = some (.slice pd data.length cd) := heap_cell hbox3 5
  have c6 : w3.cell? ⟨A, 6, none⟩ = some (.slice pl lanes.length cl) := heap_cell hbox3 6
  have HS := Hid.intro (fun g cap6 (W : World) (hW : WRow W g cap6 (flips ms)) h3 h4 h2 => HC.out (some ⟨g, 0, none⟩) cap6 (flips ms) ⟨id, kind, addr, many, wrap, data, lanes⟩ pd pl cd cl W hW.row h3 h4 h2)
  rw [slave_flips] at HS
  unfold reqV at HS
  generalize reqSlaveZ ms ⟨id, kind, addr, many, wrap, data, lanes⟩ = n at HS ⊢
  clear c0 c1 c2 c3 c4 c5 c6 HC
  go_wp2_with fail
  go_loopw [6, 7] (fun v i wr => ∃ k : Nat, k ≤ ms.length ∧ i = .int .i64 k ∧ Below w3.heap.size w3 wr ∧ Hid (kW w3.heap.size (flips (ms.take k)) wr v)) (fun _ i _ => ms.length - (intOf i).toNat)
  case atStart =>
    refine ⟨0, Nat.zero_le _, rfl, below_new _ _, w3.heap.size, 0, rfl, Nat.le_refl _, Nat.zero_le _, WRow.new (xs := []) rfl⟩
  case round =>
    obtain ⟨k, hk, rfl, hbk, HK⟩ := hrel
    obtain ⟨g, cap6, rfl, hg6, hcap6, hWk⟩ := HK.out
    clear HK
    by_cases hlt : k < ms.length
    · have hk1 : (k : Int) < (ms.length : Int) := by omega
      have hk0 : (0 : Int) ≤ (k : Int) := by omega
      obtain ⟨x0, x1, x2, x3⟩ := (hM3.below hbk).at0 k hlt
      have hgl := hWk.lt
      have hsk := hbk.size
      have HW := Hid.intro hWk
      have HSTP := Hid.intro (flips_step hlt)
      clear hWk hM3 hA3 hbox3
      have hfl : (flips (ms.take k)).length ≤ 7 := by simp [flips]; omega
      go_wp2_with (at_builtin; refine wpList_appR (M := w3.heap.size) (flips (ms.take k)) [flip1 ms[k]] rfl rfl ⟨g, cap6, rfl, hg6, hcap6, (HW.out.alloc _).alloc _⟩ rfl ((rowAt_new (xs := [flip1 ms[k]]) (by simp) rfl).row) (by simp; omega) (by simp; omega) ?_; intro v w4 hv hb4)
      have hbk4 : Below w3.heap.size w3 w4 := ((hbk.alloc hsk _).alloc (by simp; omega) _).trans hb4
      rw [← HSTP.out] at hv
      have HV := Hid.intro hv
      clear hv
      go_wp2
      go_roundw
      case rel => exact ⟨k + 1, by omega, by go_num, hbk4, HV⟩
      case measure => simp [intOf]; omega
    · have hk1 : ¬ (k : Int) < (ms.length : Int) := by omega
      have hke : k = ms.length := by omega
      subst hke
      rw [List.take_length] at hWk ⊢
      have hc6 : (flips ms).length ≤ cap6 := by obtain ⟨_, _, _, h, _⟩ := hWk; exact h
      have hcm6 : cap6 ≤ 9223372036854775807 := by unfold maxLen at hcap6; omega
      have hMk := hM3.below hbk
      have hAk2 := hA3.below hbk
      have hboxk := (hbk.block A hAl).trans hbox3
      have hAk : A < wr.heap.size := heap_lt hboxk
      have hb3k := hb3'.trans (hbk.mono hb3'.size)
      replace HS := Hid.intro (fun W h1 h2 => HS.out g cap6 W h1 hc6 hcm6 h2)
      clear hM3 hA3 hbox3 hb3' hbk
      go_wp2_with fail
      refine wp_region_grow (by kernel_rfl) (tabV [(44, .slice (some ⟨g, 0, none⟩) (flips ms).length cap6), (45, .agg #[.int .i64 id, .int .i64 kind, .int .i64 addr, .int .i64 many, .bool wrap, .slice pd data.length cd, .slice pl lanes.length cl]), (46, .int .i64 n), (47, .int .i64 n), (48, .bool true), (49, .bool true), (50, .slice (some ⟨g, 0, none⟩) (flips ms).length cap6), (51, .bool (mapOkB ms)), (52, .slice (some ⟨b, 0, none⟩) ms.length c), (53, .bool (mapOkB ms)), (54, .bool true), (55, .bool true), (56, .bool true), (57, .slice (some ⟨g, 0, none⟩) (flips ms).length cap6), (58, .pointer (some ⟨A, 2, none⟩)), (59, .int .i64 addr), (60, .int .i64 (mapFindZ ms addr)), (61, .slice (some ⟨b, 0, none⟩) ms.length c), (62, .pointer (some ⟨A, 2, none⟩)), (63, .int .i64 addr), (64, .int .i64 (mapFindZ ms addr)), (65, .bool true), (66, .bool true), (67, .bool true), (68, .bool true), (69, .bool true), (2, .bool true)])
        [44, 45, 46, 47, 48, 49, 50, 51, 52, 53, 54, 55, 56, 57, 58, 59, 60, 61, 62, 63, 64, 65, 66, 67, 68, 69, 2] (by kernel_rfl) (by kernel_rfl) ?_ ?_
      · refine ops_cons (gd rfl <| dt_val rfl (fun ρ W h => ?_)) ?_
        · have e6 : ρ (.tmp 6) = .slice (some ⟨g, 0, none⟩) (flips ms).length cap6 := h.out 6 (by kernel_rfl)
          have hc := h.con
          show (execOp ρ _).run Try.prog W = .ok (.value (.slice (some ⟨g, 0, none⟩) (flips ms).length cap6)) W
          simp only [execOp, e6]
          go_simp
        refine ops_cons (gd rfl <| dt_val rfl (fun ρ W h => ?_)) ?_
        · have e4 : ρ (.tmp 4) = .pointer (some ⟨A, 0, none⟩) := h.out 4 (by kernel_rfl)
          have hb := h.below
          have hx := (hb.block A hAk).trans hboxk
          have c0 := heap_cell hx 0
          have c1 := heap_cell hx 1
          have c2 := heap_cell hx 2
          have c3 := heap_cell hx 3
          have c4 := heap_cell hx 4
          have c5 := heap_cell hx 5
          have c6 := heap_cell hx 6
          simp at c0 c1 c2 c3 c4 c5 c6
          have hc := h.con
          show (execOp ρ _).run Try.prog W = .ok (.value (.agg #[.int .i64 id, .int .i64 kind, .int .i64 addr, .int .i64 many, .bool wrap, .slice pd data.length cd, .slice pl lanes.length cl])) W
          simp only [execOp, e4]
          go_simp
        refine ops_cons (gd rfl <| dt_call rfl (fun ρ W h => ?_)) ?_
        · have e44 : ρ (.tmp 44) = .slice (some ⟨g, 0, none⟩) (flips ms).length cap6 := h.dep 44 (by kernel_rfl)
          have e45 : ρ (.tmp 45) = .agg #[.int .i64 id, .int .i64 kind, .int .i64 addr, .int .i64 many, .bool wrap, .slice pd data.length cd, .slice pl lanes.length cl] := h.dep 45 (by kernel_rfl)
          have hf := h.fn
          have hb := h.below
          refine ⟨24, #[.slice (some ⟨g, 0, none⟩) (flips ms).length cap6, .agg #[.int .i64 id, .int .i64 kind, .int .i64 addr, .int .i64 many, .bool wrap, .slice pd data.length cd, .slice pl lanes.length cl]], by simp only [execOp]; go_simp, ?_⟩
          exact HS.out W (hWk.of (hb.block g hWk.lt)) (hAk2.below hb)
        refine ops_cons (gd rfl <| dt_val rfl (fun ρ W h => ?_)) ?_
        · have e5 : ρ (.tmp 5) = .int .i64 n := h.out 5 (by kernel_rfl)
          have hc := h.con
          show (execOp ρ _).run Try.prog W = .ok (.value (.int .i64 n)) W
          simp only [execOp, e5]
          go_simp
        refine ops_cons (gd rfl <| dt_val rfl (fun ρ W h => ?_)) ?_
        · have e46 : ρ (.tmp 46) = .int .i64 n := h.dep 46 (by kernel_rfl)
          have e47 : ρ (.tmp 47) = .int .i64 n := h.dep 47 (by kernel_rfl)
          have hc := h.con
          show (execOp ρ _).run Try.prog W = .ok (.value (.bool true)) W
          simp only [execOp, e46, e47]
          go_simp
        refine ops_cons (gd rfl <| dt_val rfl (fun ρ W h => ?_)) ?_
        · have e48 : ρ (.tmp 48) = .bool true := h.dep 48 (by kernel_rfl)
          have hc := h.con
          show (execOp ρ _).run Try.prog W = .ok (.value (.bool true)) W
          simp only [execOp, e48]
          go_simp
        refine ops_cons (gdG 5 true rfl _ rfl 49 rfl rfl (by kernel_rfl) <| dt_val rfl (fun ρ W h => ?_)) ?_
        · have e6 : ρ (.tmp 6) = .slice (some ⟨g, 0, none⟩) (flips ms).length cap6 := h.out 6 (by kernel_rfl)
          have hc := h.con
          show (execOp ρ _).run Try.prog W = .ok (.value (.slice (some ⟨g, 0, none⟩) (flips ms).length cap6)) W
          simp only [execOp, e6]
          go_simp
        refine ops_cons (gdG 5 true rfl _ rfl 49 rfl rfl (by kernel_rfl) <| dt_call rfl (fun ρ W h => ?_)) ?_
        · have e50 : ρ (.tmp 50) = .slice (some ⟨g, 0, none⟩) (flips ms).length cap6 := h.dep 50 (by kernel_rfl)
          have hf := h.fn
          have hb := h.below
          refine ⟨32, #[.slice (some ⟨g, 0, none⟩) (flips ms).length cap6], by simp only [execOp]; go_simp, ?_⟩
          have := impl_MapOk (some ⟨g, 0, none⟩) cap6 (flips ms) W (hWk.of (hb.block g hWk.lt)).row hc6 hcm6
          rw [mapOk_flips] at this
          exact this
        refine ops_cons (gdG 5 true rfl _ rfl 49 rfl rfl (by kernel_rfl) <| dt_val rfl (fun ρ W h => ?_)) ?_
        · have e3 : ρ (.tmp 3) = .slice (some ⟨b, 0, none⟩) ms.length c := h.out 3 (by kernel_rfl)
          have hc := h.con
          show (execOp ρ _).run Try.prog W = .ok (.value (.slice (some ⟨b, 0, none⟩) ms.length c)) W
          simp only [execOp, e3]
          go_simp
        refine ops_cons (gdG 5 true rfl _ rfl 49 rfl rfl (by kernel_rfl) <| dt_call rfl (fun ρ W h => ?_)) ?_
        · have e52 : ρ (.tmp 52) = .slice (some ⟨b, 0, none⟩) ms.length c := h.dep 52 (by kernel_rfl)
          have hf := h.fn
          have hb := h.below
          refine ⟨32, #[.slice (some ⟨b, 0, none⟩) ms.length c], by simp only [execOp]; go_simp, ?_⟩
          exact impl_MapOk (some ⟨b, 0, none⟩) c ms W (hMk.below hb) hmc hmm
        refine ops_cons (gdG 5 true rfl _ rfl 49 rfl rfl (by kernel_rfl) <| dt_val rfl (fun ρ W h => ?_)) ?_
        · have e51 : ρ (.tmp 51) = .bool (mapOkB ms) := h.dep 51 (by kernel_rfl)
          have e53 : ρ (.tmp 53) = .bool (mapOkB ms) := h.dep 53 (by kernel_rfl)
          have hc := h.con
          show (execOp ρ _).run Try.prog W = .ok (.value (.bool true)) W
          simp only [execOp, e51, e53]
          go_simp
        refine ops_cons (gd rfl <| dt_val rfl (fun ρ W h => ?_)) ?_
        · have e49 : ρ (.tmp 49) = .bool true := h.dep 49 (by kernel_rfl)
          have e54 : ρ (.tmp 54) = .bool true := h.dep 54 (by kernel_rfl)
          have hc := h.con
          show (execOp ρ _).run Try.prog W = .ok (.value (.bool true)) W
          simp only [execOp, e49, e54]
          go_simp
        refine ops_cons (gd rfl <| dt_val rfl (fun ρ W h => ?_)) ?_
        · have e55 : ρ (.tmp 55) = .bool true := h.dep 55 (by kernel_rfl)
          have hc := h.con
          show (execOp ρ _).run Try.prog W = .ok (.value (.bool true)) W
          simp only [execOp, e55]
          go_simp
        refine ops_cons (gdG 12 true rfl _ rfl 56 rfl rfl (by kernel_rfl) <| dt_val rfl (fun ρ W h => ?_)) ?_
        · have e6 : ρ (.tmp 6) = .slice (some ⟨g, 0, none⟩) (flips ms).length cap6 := h.out 6 (by kernel_rfl)
          have hc := h.con
          show (execOp ρ _).run Try.prog W = .ok (.value (.slice (some ⟨g, 0, none⟩) (flips ms).length cap6)) W
          simp only [execOp, e6]
          go_simp
        refine ops_cons (gdG 12 true rfl _ rfl 56 rfl rfl (by kernel_rfl) <| dt_val rfl (fun ρ W h => ?_)) ?_
        · have e4 : ρ (.tmp 4) = .pointer (some ⟨A, 0, none⟩) := h.out 4 (by kernel_rfl)
          have hc := h.con
          show (execOp ρ _).run Try.prog W = .ok (.value (.pointer (some ⟨A, 2, none⟩))) W
          simp only [execOp, e4]
          go_simp
        refine ops_cons (gdG 12 true rfl _ rfl 56 rfl rfl (by kernel_rfl) <| dt_val rfl (fun ρ W h => ?_)) ?_
        · have e58 : ρ (.tmp 58) = .pointer (some ⟨A, 2, none⟩) := h.dep 58 (by kernel_rfl)
          have hb := h.below
          have hx := (hb.block A hAk).trans hboxk
          have c2 := heap_cell hx 2
          simp at c2
          have hc := h.con
          show (execOp ρ _).run Try.prog W = .ok (.value (.int .i64 addr)) W
          simp only [execOp, e58]
          go_simp
        refine ops_cons (gdG 12 true rfl _ rfl 56 rfl rfl (by kernel_rfl) <| dt_call rfl (fun ρ W h => ?_)) ?_
        · have e57 : ρ (.tmp 57) = .slice (some ⟨g, 0, none⟩) (flips ms).length cap6 := h.dep 57 (by kernel_rfl)
          have e59 : ρ (.tmp 59) = .int .i64 addr := h.dep 59 (by kernel_rfl)
          have hf := h.fn
          have hb := h.below
          refine ⟨28, #[.slice (some ⟨g, 0, none⟩) (flips ms).length cap6, .int .i64 addr], by simp only [execOp]; go_simp, ?_⟩
          have := impl_MapFind (some ⟨g, 0, none⟩) cap6 (flips ms) addr W (hWk.of (hb.block g hWk.lt)).row hc6 hcm6
          rw [mapFind_flips] at this
          exact this
        refine ops_cons (gdG 12 true rfl _ rfl 56 rfl rfl (by kernel_rfl) <| dt_val rfl (fun ρ W h => ?_)) ?_
        · have e3 : ρ (.tmp 3) = .slice (some ⟨b, 0, none⟩) ms.length c := h.out 3 (by kernel_rfl)
          have hc := h.con
          show (execOp ρ _).run Try.prog W = .ok (.value (.slice (some ⟨b, 0, none⟩) ms.length c)) W
          simp only [execOp, e3]
          go_simp
        refine ops_cons (gdG 12 true rfl _ rfl 56 rfl rfl (by kernel_rfl) <| dt_val rfl (fun ρ W h => ?_)) ?_
        · have e4 : ρ (.tmp 4) = .pointer (some ⟨A, 0, none⟩) := h.out 4 (by kernel_rfl)
          have hc := h.con
          show (execOp ρ _).run Try.prog W = .ok (.value (.pointer (some ⟨A, 2, none⟩))) W
          simp only [execOp, e4]
          go_simp
        refine ops_cons (gdG 12 true rfl _ rfl 56 rfl rfl (by kernel_rfl) <| dt_val rfl (fun ρ W h => ?_)) ?_
        · have e62 : ρ (.tmp 62) = .pointer (some ⟨A, 2, none⟩) := h.dep 62 (by kernel_rfl)
          have hb := h.below
          have hx := (hb.block A hAk).trans hboxk
          have c2 := heap_cell hx 2
          simp at c2
          have hc := h.con
          show (execOp ρ _).run Try.prog W = .ok (.value (.int .i64 addr)) W
          simp only [execOp, e62]
          go_simp
        refine ops_cons (gdG 12 true rfl _ rfl 56 rfl rfl (by kernel_rfl) <| dt_call rfl (fun ρ W h => ?_)) ?_
        · have e61 : ρ (.tmp 61) = .slice (some ⟨b, 0, none⟩) ms.length c := h.dep 61 (by kernel_rfl)
          have e63 : ρ (.tmp 63) = .int .i64 addr := h.dep 63 (by kernel_rfl)
          have hf := h.fn
          have hb := h.below
          refine ⟨28, #[.slice (some ⟨b, 0, none⟩) ms.length c, .int .i64 addr], by simp only [execOp]; go_simp, ?_⟩
          exact impl_MapFind (some ⟨b, 0, none⟩) c ms addr W (hMk.below hb) hmc hmm
        refine ops_cons (gdG 12 true rfl _ rfl 56 rfl rfl (by kernel_rfl) <| dt_val rfl (fun ρ W h => ?_)) ?_
        · have e60 : ρ (.tmp 60) = .int .i64 (mapFindZ ms addr) := h.dep 60 (by kernel_rfl)
          have e64 : ρ (.tmp 64) = .int .i64 (mapFindZ ms addr) := h.dep 64 (by kernel_rfl)
          have hc := h.con
          show (execOp ρ _).run Try.prog W = .ok (.value (.bool true)) W
          simp only [execOp, e60, e64]
          go_simp
        refine ops_cons (gd rfl <| dt_val rfl (fun ρ W h => ?_)) ?_
        · have e56 : ρ (.tmp 56) = .bool true := h.dep 56 (by kernel_rfl)
          have e65 : ρ (.tmp 65) = .bool true := h.dep 65 (by kernel_rfl)
          have hc := h.con
          show (execOp ρ _).run Try.prog W = .ok (.value (.bool true)) W
          simp only [execOp, e56, e65]
          go_simp
        refine ops_cons (gd rfl <| dt_val rfl (fun ρ W h => ?_)) ?_
        · have e66 : ρ (.tmp 66) = .bool true := h.dep 66 (by kernel_rfl)
          have hc := h.con
          show (execOp ρ _).run Try.prog W = .ok (.value (.bool true)) W
          simp only [execOp, e66]
          go_simp
        refine ops_cons (gdG 23 true rfl _ rfl 67 rfl rfl (by kernel_rfl) <| dt_call rfl (fun ρ W h => ?_)) ?_
        · have hf := h.fn
          have hb := h.below
          refine ⟨19, #[], by simp only [execOp]; go_simp, ?_⟩
          refine (crOk_any W).mono ?_
          rintro e w' ⟨rfl, rfl⟩
          exact ⟨rfl, Below.refl _ _⟩
        refine ops_cons (gd rfl <| dt_val rfl (fun ρ W h => ?_)) ?_
        · have e67 : ρ (.tmp 67) = .bool true := h.dep 67 (by kernel_rfl)
          have e68 : ρ (.tmp 68) = .bool true := h.dep 68 (by kernel_rfl)
          have hc := h.con
          show (execOp ρ _).run Try.prog W = .ok (.value (.bool true)) W
          simp only [execOp, e67, e68]
          go_simp
        refine ops_cons (gd rfl <| dt_val rfl (fun ρ W h => ?_)) ?_
        · have e69 : ρ (.tmp 69) = .bool true := h.dep 69 (by kernel_rfl)
          have hc := h.con
          show (execOp ρ _).run Try.prog W = .ok (.value (.bool true)) W
          simp only [execOp, e69]
          go_simp
        exact ops_nil
      · intro W hW
        simp only [fill, tabV]
        go_simp
        go_wp2
        go_ret
        exact ⟨rfl, hb3k.trans (hW.mono hb3k.size)⟩

end Go.Proofs.Ytdjmjdljgdagcaa
