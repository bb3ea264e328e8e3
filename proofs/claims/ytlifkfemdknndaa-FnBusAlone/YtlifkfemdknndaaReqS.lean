/-
  RspOk and ReqSlave of the model.
-/
import Derived.Test.YtlifkfemdknndaaProg
import Derived.Test.YtlifkfemdknndaaReqM
import Derived.Test.YtlifkfemdknndaaMapCM
namespace Go.Proofs.Ytlifkfemdknndaa
open Go.RowKit
set_option linter.unusedSimpArgs false
set_option linter.unusedVariables false

/-- the value of what comes of something -/
def rspV (r : Rsp) (p : Option Addr) (c : Nat) : Value := .agg #[.int .i64 r.id, .int .i64 r.code, .slice p r.data.length c]
structure RspAt (w : World) (r : Rsp) (p : Option Addr) (c : Nat) : Prop where
  data : IntsAt w p r.data
  c1 : r.data.length ≤ c
  c2 : c ≤ 9223372036854775807
theorem RspAt.below {w w' : World} {r : Rsp} {p : Option Addr} {c : Nat} (h : RspAt w r p c) (hb : Below w.heap.size w w') : RspAt w' r p c := ⟨h.data.below hb, h.c1, h.c2⟩

theorem rspOk_eq (r : Rsp) : rspOkB r = (inB r.id 0 1 && (inB r.code 1 4 && (decide ((r.data.length : Int) ≤ 4) && allIn r.data 0 65535))) := by
  unfold rspOkB
  rw [show decide (r.data.length ≤ 4) = decide ((r.data.length : Int) ≤ 4) by rw [decide_eq_decide]; omega]

theorem whole_hit {ms : List Rng} {a : Int} {l : List Int} {j : Nat} (hj : j < l.length) (h : (findAt ms l[j] 0 == findAt ms a 0) = false) : wholeZ ms (a :: l) = -1 := by
  have : l.all (fun x => findAt ms x 0 == findAt ms a 0) = false := List.all_eq_false.2 ⟨l[j], List.getElem_mem hj, by simp [h]⟩
  simp [wholeZ, this]
theorem whole_all {ms : List Rng} {a : Int} {l : List Int} {k : Nat} (hk : l.length ≤ k) (h : (l.take k).all (fun x => findAt ms x 0 == findAt ms a 0) = true) : wholeZ ms (a :: l) = findAt ms a 0 := by
  rw [List.take_of_length_le hk] at h
  simp only [wholeZ, h, if_true]
theorem whole_step {ms : List Rng} {a : Int} {l : List Int} {k : Nat} (hk : k < l.length) (h : (l.take k).all (fun x => findAt ms x 0 == findAt ms a 0) = true) (h' : (findAt ms l[k] 0 == findAt ms a 0) = true) : (l.take (k + 1)).all (fun x => findAt ms x 0 == findAt ms a 0) = true := by
  rw [List.take_succ_eq_append_getElem hk, List.all_append, h]; simpa using h'

set_option maxRecDepth 100000 in
set_option maxHeartbeats 1000000 in
theorem l1Whole_any (a : Option Addr) (cap : Nat) (ms : List Rng) (p : Option Addr) (c : Nat) (xs : List Int) (w : World) (hm : RowOf w a ms) (hc : ms.length ≤ cap) (hc' : cap ≤ 9223372036854775807)
    (hx : IntsAt w p xs) (hp : xs.length ≤ c) (hp' : c ≤ 9223372036854775807) :
    Calls Try.prog 72 #[.slice a ms.length cap, .slice p xs.length c] w fun e w' => e = .returned (.int .i64 (wholeZ ms xs)) ∧ Below w.heap.size w w' := by
  cases xs with
  | nil =>
    go_enter Try.func72, Try.ntmps72
    go_wp2
    go_ret
    exact ⟨rfl, Below.refl _ _⟩
  | cons x0 l =>
    rcases hx with hx | ⟨b, off, rfl, hb, hcells⟩
    · cases hx
    have c0 := hcells 0 (by simp)
    simp only [Nat.add_zero, List.getElem_cons_zero] at c0
    have hlen : (x0 :: l).length = l.length + 1 := rfl
    have HC := Hid.intro hcells
    have HM := Hid.intro hm
    clear hcells hm
    have hI : ((((x0 :: l).length : Nat) : Int) == 0) = false := by simp; omega
    have hpos : (0 : Int) < (((x0 :: l).length : Nat) : Int) := by simp <;> omega
    obtain ⟨n, hn⟩ : ∃ n, n = (x0 :: l).length := ⟨_, rfl⟩
    rw [← hn] at hI hpos hp ⊢
    have hnl : n = l.length + 1 := by rw [hn, hlen]
    clear hn hlen
    go_enter Try.func72, Try.ntmps72
    go_wp2_with fail
    refine (spec_l1Find a cap ms x0 w HM.out hc hc').mono ?_
    rintro e w1 ⟨rfl, hb1⟩
    go_wp2_with fail
    go_loopw [6] (fun i wr => ∃ k : Nat, k ≤ l.length ∧ i = .int .i64 ((k + 1 : Nat) : Int) ∧ Below w.heap.size w wr ∧ Hid ((l.take k).all (fun x => findAt ms x 0 == findAt ms x0 0) = true)) (fun i _ => n - (intOf i).toNat)
    case atStart => exact ⟨0, Nat.zero_le _, rfl, hb1, rfl⟩
    case round =>
      clear hb1
      obtain ⟨k, hk, rfl, hbl, HF⟩ := hrel
      by_cases hlt : k < l.length
      · have hk0 : (0 : Int) ≤ ((k + 1 : Nat) : Int) := by omega
        have hk1 : ((k + 1 : Nat) : Int) < (n : Int) := by omega
        have hc1 : wr.cell? ⟨b, off + (k + 1), none⟩ = some (.int .i64 l[k]) := (hbl.cell (p := ⟨b, off + (k + 1), none⟩) hb).trans (HC.out (k + 1) (by simp; omega))
        go_wp2_with fail
        refine (spec_l1Find a cap ms l[k] wr (HM.out.below hbl) hc hc').mono ?_
        rintro e w2 ⟨rfl, hb2⟩
        have hb2' := hbl.trans (hb2.mono hbl.size)
        clear hb2 hc1
        cases he : (findAt ms l[k] 0 == findAt ms x0 0)
        · have HN := Hid.intro (whole_hit hlt he)
          have hne : (findAt ms l[k] 0 != findAt ms x0 0) = true := by simpa [bne] using he
          go_wp2
          go_ret
          exact ⟨by rw [HN.out]; rfl, hb2'⟩
        · have HN := Hid.intro (whole_step hlt HF.out he)
          have hne : (findAt ms l[k] 0 != findAt ms x0 0) = false := by simpa [bne] using he
          go_wp2
          go_roundw
          case rel => exact ⟨k + 1, by omega, by go_num, hb2', HN⟩
          case measure => simp [intOf]; omega
      · have HN := Hid.intro (whole_all (show l.length ≤ k by omega) HF.out)
        have hI2 : ¬ ((k + 1 : Nat) : Int) < (n : Int) := by omega
        go_wp2
        go_ret
        exact ⟨by rw [HN.out]; rfl, hbl⟩

theorem whole_range (ms : List Rng) (xs : List Int) : wholeZ ms xs = -1 ∨ ∃ k, ∃ h : k < ms.length, wholeZ ms xs = (k : Int) := by
  cases xs with
  | nil => exact .inl rfl
  | cons a l =>
    simp only [wholeZ]
    by_cases hall : (l.all fun x => findAt ms x 0 == findAt ms a 0) = true
    · rw [if_pos hall]
      rcases findAt_spec a ms 0 with ⟨h, _⟩ | ⟨i, hi, h, _⟩
      · exact .inl h
      · exact .inr ⟨i, hi, by simpa using h⟩
    · rw [if_neg hall]
      exact .inl rfl
/-- ReqSlave -/
def reqSlaveZ (ms : List Rng) (r : Req) : Int := if mapOkB ms && reqOkB r then slaveAt ms (wholeZ ms (burst r.addr r.many r.wrap)) else -1
theorem slave_no {ms : List Rng} {r : Req} (h : mapOkB ms = false ∨ reqOkB r = false) : reqSlaveZ ms r = -1 := by
  rcases h with h | h <;> simp [reqSlaveZ, h]
theorem slave_none {ms : List Rng} {r : Req} (h1 : mapOkB ms = true) (h2 : reqOkB r = true) (h : wholeZ ms (burst r.addr r.many r.wrap) = -1) : reqSlaveZ ms r = 3 := by
  simp [reqSlaveZ, h1, h2, h, slaveAt]
theorem slave_at {ms : List Rng} {r : Req} (h1 : mapOkB ms = true) (h2 : reqOkB r = true) {k : Nat} (hk : k < ms.length) (h : wholeZ ms (burst r.addr r.many r.wrap) = (k : Int)) : reqSlaveZ ms r = ms[k].sl := by
  have h0 : ¬ ((k : Int) < 0) := by omega
  simp [reqSlaveZ, h1, h2, h, slaveAt, h0, hk]

set_option maxRecDepth 100000 in
set_option maxHeartbeats 1000000 in
theorem spec_ReqSlave (a : Option Addr) (cap : Nat) (ms : List Rng) (r : Req) (pd pl : Option Addr) (cd cl : Nat) (w : World) (hm : RowOf w a ms) (hc : ms.length ≤ cap) (hc' : cap ≤ 9223372036854775807) (h : ReqAt w r pd cd pl cl) :
    Calls Try.prog 46 #[.slice a ms.length cap, reqV r pd cd pl cl] w fun e w' => e = .returned (.int .i64 (reqSlaveZ ms r)) ∧ Below w.heap.size w w' := by
  have hbl : ∀ o, Below w.heap.size w (w.alloc o) := fun o => (Below.refl _ w).alloc (Nat.le_refl _) o
  have HQ := Hid.intro (fun W h => spec_ReqOk r pd pl cd cl W h)
  have HM := Hid.intro hm
  have HA := Hid.intro h
  clear hm h
  unfold reqV
  go_enter Try.func46, Try.ntmps46
  go_wp2_with fail
  refine (spec_MapOk a cap ms _ (HM.out.below (hbl _)) hc hc').mono ?_
  rintro e w1 ⟨rfl, hb1⟩
  obtain ⟨c0, c1, c2, c3, c4, c5, c6⟩ := box7 hb1
  have hs1 := hb1.size
  simp at hs1
  have hb1' := (hbl _).trans (hb1.mono (hbl _).size)
  clear hb1
  cases hok : mapOkB ms
  · have HN := Hid.intro (slave_no (ms := ms) (r := r) (.inl hok))
    go_wp2
    go_ret
    exact ⟨by rw [HN.out]; rfl, hb1'⟩
  go_wp2_with fail
  refine (HQ.out w1 (HA.out.below hb1')).mono ?_
  rintro e w2 ⟨rfl, hb2⟩
  have hs2 := hb2.size
  have hlt : w.heap.size < w1.heap.size := by omega
  have d2 := (hb2.cell (p := ⟨w.heap.size, 2, none⟩) hlt).trans c2
  have d3 := (hb2.cell (p := ⟨w.heap.size, 3, none⟩) hlt).trans c3
  have d4 := (hb2.cell (p := ⟨w.heap.size, 4, none⟩) hlt).trans c4
  have hb2' := hb1'.trans (hb2.mono hb1'.size)
  clear hb2 c0 c1 c2 c3 c4 c5 c6 hb1' HQ
  cases hrq : reqOkB r
  · have HN := Hid.intro (slave_no (ms := ms) (r := r) (.inr hrq))
    go_wp2
    go_ret
    exact ⟨by rw [HN.out]; rfl, hb2'⟩
  go_wp2_with fail
  refine (spec_AdrBurst r.addr r.many r.wrap w2).mono ?_
  rintro e w3 ⟨g, cg, rfl, hi3, hg3, hcg, hcm, hb3⟩
  have hb3' := hb2'.trans (hb3.mono hb2'.size)
  clear hb3 d2 d3 d4
  go_wp2_with fail
  refine (l1Whole_any a cap ms (some ⟨g, 0, none⟩) cg _ w3 (HM.out.below hb3') hc hc' hi3 hcg hcm).mono ?_
  rintro e w4 ⟨rfl, hb4⟩
  have hb4' := hb3'.trans (hb4.mono hb3'.size)
  clear hb4 hi3 hcg
  rcases whole_range ms (burst r.addr r.many r.wrap) with hk | ⟨k, hk, hke⟩
  · have HN := Hid.intro (slave_none hok hrq hk)
    rw [hk]
    go_wp2
    go_ret
    exact ⟨by rw [HN.out]; rfl, hb4'⟩
  · have HN := Hid.intro (slave_at hok hrq hk hke)
    rw [hke]
    rcases HM.out with hx | ⟨b, off, rfl, hb, hcells⟩
    · subst hx; simp at hk
    obtain ⟨g0, g1, g2, g3⟩ := hcells k hk
    have e2 := (hb4'.cell (p := ⟨b, off + k * 4 + 2, none⟩) hb).trans g2
    have hk0 : (0 : Int) ≤ (k : Int) := by omega
    have hk1 : (k : Int) < (ms.length : Int) := by omega
    have hk2 : ¬ ((k : Int) < 0) := by omega
    clear hcells g0 g1 g2 g3 HM
    go_wp2
    go_ret
    exact ⟨by rw [HN.out]; rfl, hb4'⟩

end Go.Proofs.Ytlifkfemdknndaa
