/-
  Proved: how it goes is told. At every code (a row of bytes of any length) the law answers true and leaves its argument as it was. No condition.
-/
import Derived.Test.YtcjlmdjiddadfaaProg
import Derived.Test.YtcjlmdjiddadfaaCrOkM
import Derived.Test.YtcjlmdjiddadfaaSpcH
import Derived.Test.YtcjlmdjiddadfaaBurstM
import Derived.Test.YtcjlmdjiddadfaaImplUM
import Derived.Test.YtcjlmdjiddadfaaSpcA
import Derived.Test.YtcjlmdjiddadfaaReq
import Derived.BigQuiet
import Derived.Test.YtcjlmdjiddadfaaRows
import Derived.Test.YtcjlmdjiddadfaaLawB
import Derived.Test.YtcjlmdjiddadfaaImpKM
/-
  The law FnAtmCode, walked, by what AtmDo of the program answers.
-/
namespace Go.Proofs.Ytcjlmdjiddadfaa
open Go.RowKit
set_option linter.unusedSimpArgs false
set_option linter.unusedVariables false

def onlyIn (ms : List Rng) (a : Int) (k : Nat) : Bool := (ms.take k).any (fun m => m.only && inRngB m a)
theorem onlyIn_step {ms : List Rng} {a : Int} {k : Nat} (h : k < ms.length) : onlyIn ms a (k + 1) = (onlyIn ms a k || (ms[k].only && inRngB ms[k] a)) := by
  unfold onlyIn
  rw [take_at h, List.any_append]
  simp
theorem whole_each {ms : List Rng} {l : List Int} (h : ¬ wholeZ ms l < 0) : ∀ x ∈ l, findAt ms x 0 = wholeZ ms l := by
  cases l with
  | nil => exact absurd (show (-1 : Int) < 0 by decide) h
  | cons a l =>
    by_cases hall : (l.all fun x => findAt ms x 0 == findAt ms a 0) = true
    · have e : wholeZ ms (a :: l) = findAt ms a 0 := if_pos hall
      rw [e]
      intro x hx
      rcases List.mem_cons.1 hx with rfl | hx
      · rfl
      · have := List.all_eq_true.1 hall x hx
        simpa using this
    · have e : wholeZ ms (a :: l) = -1 := if_neg hall
      rw [e] at h
      exact absurd (show (-1 : Int) < 0 by decide) h
/-- whether it can but be read is told by its first address -/
theorem only_all {ms : List Rng} {r : Req} (hm : mapOkB ms = true) (hr : reqOkB r = true) (h : ¬ wholeZ ms (burst r.addr r.many r.wrap) < 0) : ∃ k : Nat, ∃ hk : k < ms.length, wholeZ ms (burst r.addr r.many r.wrap) = (k : Int) ∧ onlyAt ms (wholeZ ms (burst r.addr r.many r.wrap)) = onlyIn ms r.addr ms.length := by
  obtain ⟨q1, q2, q3⟩ := req_parts hr
  have e := whole_each h r.addr (burst_hd q2)
  rcases findAt_spec r.addr ms 0 with ⟨h1, _⟩ | ⟨i, hi, h1, _, h3⟩
  · rw [h1] at e; omega
  rw [h1] at e
  have ei : wholeZ ms (burst r.addr r.many r.wrap) = (i : Int) := by rw [← e]; simp
  refine ⟨i, hi, ei, ?_⟩
  rw [ei]
  have eo : onlyAt ms (i : Int) = ms[i].only := by simp [onlyAt, hi]
  rw [eo]
  unfold onlyIn
  rw [List.take_length]
  obtain ⟨_, _, hp⟩ := (mapOk_iff ms).1 hm
  cases ho : ms[i].only
  · symm
    rw [Bool.eq_false_iff]
    intro hany
    obtain ⟨m, hmem, hmm⟩ := List.any_eq_true.1 hany
    obtain ⟨j, hj, rfl⟩ := List.mem_iff_getElem.1 hmem
    simp only [Bool.and_eq_true] at hmm
    by_cases hji : j = i
    · subst hji; rw [ho] at hmm; exact absurd hmm.1 (by simp)
    · rcases Nat.lt_or_gt_of_ne hji with hlt | hgt
      · have := (List.pairwise_iff_getElem.1 hp) j i hj hi hlt
        rw [in_meet hmm.2 h3] at this
        cases this
      · have := (List.pairwise_iff_getElem.1 hp) i j hi hj hgt
        rw [in_meet h3 hmm.2] at this
        cases this
  · symm
    exact List.any_eq_true.2 ⟨ms[i], List.getElem_mem hi, by simp [ho, h3]⟩
theorem code_of {ms : List Rng} {s zs : Stt} {zr : Rsp} {who : Int} {r : Req} (h : ¬ wholeZ ms (burst r.addr r.many r.wrap) < 0) (hdo : atmDo ms s who r = (zs, zr)) :
    zr.code = if (writesB r && onlyAt ms (wholeZ ms (burst r.addr r.many r.wrap))) = true then 3 else if r.kind = 3 then 2 else if r.kind = 4 ∧ getZ s.holds (atR who r.id) = r.addr then 2 else 1 := by
  have e := congrArg (fun x => x.2.code) hdo
  simp only at e
  rw [← e]
  unfold atmDo
  rw [if_neg h]
  by_cases hw : (writesB r && onlyAt ms (wholeZ ms (burst r.addr r.many r.wrap))) = true
  · simp only [if_pos hw]
  simp only [if_neg hw]
  by_cases k1 : r.kind = 1
  · simp [k1]
  by_cases k3 : r.kind = 3
  · simp [k3]
  by_cases k4 : r.kind = 4
  · by_cases hh : getZ s.holds (atR who r.id) = r.addr <;> simp [k4, hh]
  · simp [k1, k3, k4]

set_option maxRecDepth 100000 in
set_option maxHeartbeats 8000000 in
theorem walkC_FnAtmCode (hI : AtmDoC) (a : Option Addr) (len cap : Nat) (w : World) (hc : len ≤ cap) (hm : cap ≤ 9223372036854775807) (h : Bytes w w.heap.size a len) :
    Calls Try.prog 4 #[.slice a len cap] w fun e w' => e = .returned (.bool true) ∧ Below w.heap.size w w' := by
  by_cases hl : 1048576 < len
  · have hI1 : (1048576 : Int) < (len : Int) := by omega
    clear h hI
    go_enter Try.func4, Try.ntmps4
    go_wp2
    go_ret
    exact ⟨rfl, Below.refl _ _⟩
  have hI1 : ¬ (1048576 : Int) < (len : Int) := by omega
  have HB := Hid.intro h
  have HC := Hid.intro hI
  clear h hI
  go_enter Try.func4, Try.ntmps4
  go_wp2_with fail
  refine (drawAtmDo_any a len cap w hc hm HB.out).mono ?_
  rintro e w1 ⟨b, c, ms, s, bw, ow, cw, bh, oh, ch, who, r, pd, cd, pl, cl, rfl, hM, xc, xm, x1, x7, hS, y1, y2, hR, z1, z2, hb1⟩
  obtain ⟨zs, zr, hZ⟩ : ∃ zs zr, atmZ ms s who r = (zs, zr) := ⟨_, _, rfl⟩
  have HZ := Hid.intro hZ
  have HM := Hid.intro hM
  have HS := Hid.intro hS
  have HR := Hid.intro hR
  clear hM hS hR hZ
  unfold stV reqV
  go_wp2_with fail
  refine (atmF_at HC.out HZ.out (HM.out.below (below_two _ _ _)) xc xm (HS.out.below (below_two _ _ _)) (HR.out.below (below_two _ _ _))).mono ?_
  rintro e w2 ⟨qw, dw, qh, dh, qx, dx, rfl, hO, hb2⟩
  have hs1 := hb1.size
  have hs2 := hb2.size
  simp only [World.size_alloc] at hs2
  have bS : w2.heap[w1.heap.size]? = some (.cells #[.slice (some ⟨bw, ow, none⟩) s.words.length cw, .slice (some ⟨bh, oh, none⟩) s.holds.length ch] 28 (0, 0)) := (hb2.block _ (by simp; omega)).trans (two_at0 _ _ _)
  have bQ : w2.heap[w1.heap.size + 1]? = some (.cells #[.int .i64 r.id, .int .i64 r.kind, .int .i64 r.addr, .int .i64 r.many, .bool r.wrap, .slice pd r.data.length cd, .slice pl r.lanes.length cl] 30 (0, 0)) := (hb2.block _ (by simp)).trans (two_at1 _ _ _)
  have HM2 := Hid.intro ((HM.out.below (below_two _ _ _)).below hb2)
  have HS2 := Hid.intro ((HS.out.below (below_two _ _ _)).below hb2)
  have HR2 := Hid.intro ((HR.out.below (below_two _ _ _)).below hb2)
  have HO2 := Hid.intro hO
  have hB2 := (hb1.trans ((below_two w1 _ _).mono hb1.size)).trans (hb2.mono (by simp; omega))
  obtain ⟨S, eS⟩ : ∃ S, S = w1.heap.size := ⟨_, rfl⟩
  obtain ⟨Q, eQ⟩ : ∃ Q, Q = w1.heap.size + 1 := ⟨_, rfl⟩
  rw [← eQ] at bQ ⊢
  rw [← eS] at bS ⊢
  have hSl : S < w2.heap.size := by omega
  have hQl : Q < w2.heap.size := by omega
  have hnSQ : S ≠ Q := by omega
  clear hb1 hb2 hO HM HS HR eS eQ hs2 hs1
  obtain ⟨s0, s1⟩ := cells2 bS
  obtain ⟨r0, r1, r2, r3, r4, r5, r6⟩ := cells7 bQ
  have BS := Hid.intro bS
  have BQ := Hid.intro bQ
  clear bS bQ
  unfold stV rspV
  go_wp2_with fail
  refine (atmF_at spec_AtmDo HZ.out (HM2.out.below (below_two _ _ _)) xc xm (HS2.out.below (below_two _ _ _)) (HR2.out.below (below_two _ _ _))).mono ?_
  rintro e w3 ⟨kw, mw, kh, mh, kx, mx, rfl, hO, hb3⟩
  have hs3 := hb3.size
  simp only [World.size_alloc] at hs3
  have bX : w3.heap[w2.heap.size]? = some (.cells #[.slice qw zs.words.length dw, .slice qh zs.holds.length dh] 28 (0, 0)) := (hb3.block _ (by simp; omega)).trans (two_at0 _ _ _)
  have bO : w3.heap[w2.heap.size + 1]? = some (.cells #[.int .i64 zr.id, .int .i64 zr.code, .slice qx zr.data.length dx] 34 (0, 0)) := (hb3.block _ (by simp)).trans (two_at1 _ _ _)
  have hg3 : Below w2.heap.size w2 w3 := (below_two w2 _ _).trans (hb3.mono (by simp; omega))
  have bS := (hg3.block S hSl).trans BS.out
  have bQ := (hg3.block Q hQl).trans BQ.out
  have HM3 := Hid.intro (HM2.out.below hg3)
  have HS3 := Hid.intro (HS2.out.below hg3)
  have HR3 := Hid.intro (HR2.out.below hg3)
  have HO3 := Hid.intro (HO2.out.below hg3)
  have HK3 := Hid.intro hO
  have hB3 := hB2.trans (hg3.mono hB2.size)
  obtain ⟨X, eX⟩ : ∃ X, X = w2.heap.size := ⟨_, rfl⟩
  obtain ⟨O, eO⟩ : ∃ O, O = w2.heap.size + 1 := ⟨_, rfl⟩
  rw [← eO] at bO ⊢
  rw [← eX] at bX ⊢
  have hXl : X < w3.heap.size := by omega
  have hOl : O < w3.heap.size := by omega
  have hS3 : S < w3.heap.size := by omega
  have hQ3 : Q < w3.heap.size := by omega
  have hnSX : S ≠ X := by omega
  have hnQX : Q ≠ X := by omega
  have hnSO : S ≠ O := by omega
  have hnQO : Q ≠ O := by omega
  have hnXO : X ≠ O := by omega
  clear hb3 hg3 hO HM2 HS2 HR2 HO2 BS BQ s0 s1 r0 r1 r2 r3 r4 r5 r6 hB2 hSl hQl eX eO hs3
  obtain ⟨o0, o1, o2⟩ := cells3 bO
  have BS := Hid.intro bS
  have BQ := Hid.intro bQ
  have BX := Hid.intro bX
  have BO := Hid.intro bO
  clear bS bQ bX bO
  unfold stV rspV
  go_wp2_with fail
  refine (crRsp_same zr qx kx dx mx _ (HO3.out.rsp.below (below_two _ _ _)) (HK3.out.rsp.below (below_two _ _ _))).mono ?_
  rintro e w4 ⟨rfl, hb4⟩
  have hg4 : Below w3.heap.size w3 w4 := (below_two w3 _ _).trans (hb4.mono (by simp; omega))
  have hs4 := hg4.size
  have bS := (hg4.block S hS3).trans BS.out
  have bQ := (hg4.block Q hQ3).trans BQ.out
  have bX := (hg4.block X hXl).trans BX.out
  have bO := (hg4.block O hOl).trans BO.out
  have HM4 := Hid.intro (HM3.out.below hg4)
  have HS4 := Hid.intro (HS3.out.below hg4)
  have HR4 := Hid.intro (HR3.out.below hg4)
  have HO4 := Hid.intro (HO3.out.below hg4)
  have hB4 := hB3.trans (hg4.mono hB3.size)
  have hS4 : S < w4.heap.size := by omega
  have hQ4 : Q < w4.heap.size := by omega
  have hX4 : X < w4.heap.size := by omega
  have hO4 : O < w4.heap.size := by omega
  clear hb4 hg4 HM3 HS3 HR3 HO3 HK3 BS BQ BX BO o0 o1 o2 hB3 hXl hOl hS3 hQ3 hs4
  obtain ⟨s0, s1⟩ := cells2 bS
  obtain ⟨r0, r1, r2, r3, r4, r5, r6⟩ := cells7 bQ
  obtain ⟨x0, x1, x2⟩ := (⟨(cells2 bX).1, (cells2 bX).2, trivial⟩ : _ ∧ _ ∧ True)
  obtain ⟨o0, o1, o2⟩ := cells3 bO
  have BS := Hid.intro bS
  have BQ := Hid.intro bQ
  have BX := Hid.intro bX
  have BO := Hid.intro bO
  clear bS bQ bX bO x2
  have BS4 := BS
  have BQ4 := BQ
  have BX4 := BX
  have BO4 := BO
  clear BS BQ BX BO
  go_wp2_with fail
  refine (spec_MapOk _ c ms w4 HM4.out xc xm).mono ?_
  rintro e w5 ⟨rfl, hb5⟩
  have hs5 := hb5.size
  have BS5 := Hid.intro ((hb5.block S hS4).trans BS4.out)
  have BQ5 := Hid.intro ((hb5.block Q hQ4).trans BQ4.out)
  have BX5 := Hid.intro ((hb5.block X hX4).trans BX4.out)
  have BO5 := Hid.intro ((hb5.block O hO4).trans BO4.out)
  have HM5 := Hid.intro (HM4.out.below hb5)
  have HS5 := Hid.intro (HS4.out.below hb5)
  have HR5 := Hid.intro (HR4.out.below hb5)
  have HO5 := Hid.intro (HO4.out.below hb5)
  have hB5 := hB4.trans (hb5.mono hB4.size)
  have hS5 : S < w5.heap.size := by omega
  have hQ5 : Q < w5.heap.size := by omega
  have hX5 : X < w5.heap.size := by omega
  have hO5 : O < w5.heap.size := by omega
  clear hb5 hs5 BS4 BQ4 BX4 BO4 HM4 HS4 HR4 HO4 hB4 hS4 hQ4 hX4 hO4 s0 s1 r0 r1 r2 r3 r4 r5 r6 x0 x1 o0 o1 o2
  obtain ⟨s0, s1⟩ := cells2 BS5.out
  obtain ⟨r0, r1, r2, r3, r4, r5, r6⟩ := cells7 BQ5.out
  obtain ⟨x0, x1⟩ := cells2 BX5.out
  obtain ⟨o0, o1, o2⟩ := cells3 BO5.out
  cases k1 : mapOkB ms
  · go_wp2_with (go_at_call 26; refine (crOk_any _).mono ?_; rintro e w' ⟨rfl, rfl⟩)
    go_ret
    exact ⟨rfl, hB5⟩
  go_wp2_with fail
  refine (spec_AtmOk s _ _ cw ch w5 HS5.out).mono ?_
  rintro e w6 ⟨rfl, hb6⟩
  have hs6 := hb6.size
  have BS6 := Hid.intro ((hb6.block S hS5).trans BS5.out)
  have BQ6 := Hid.intro ((hb6.block Q hQ5).trans BQ5.out)
  have BX6 := Hid.intro ((hb6.block X hX5).trans BX5.out)
  have BO6 := Hid.intro ((hb6.block O hO5).trans BO5.out)
  have HM6 := Hid.intro (HM5.out.below hb6)
  have HS6 := Hid.intro (HS5.out.below hb6)
  have HR6 := Hid.intro (HR5.out.below hb6)
  have HO6 := Hid.intro (HO5.out.below hb6)
  have hB6 := hB5.trans (hb6.mono hB5.size)
  have hS6 : S < w6.heap.size := by omega
  have hQ6 : Q < w6.heap.size := by omega
  have hX6 : X < w6.heap.size := by omega
  have hO6 : O < w6.heap.size := by omega
  clear hb6 hs6 BS5 BQ5 BX5 BO5 HM5 HS5 HR5 HO5 hB5 hS5 hQ5 hX5 hO5 s0 s1 r0 r1 r2 r3 r4 r5 r6 x0 x1 o0 o1 o2
  obtain ⟨s0, s1⟩ := cells2 BS6.out
  obtain ⟨r0, r1, r2, r3, r4, r5, r6⟩ := cells7 BQ6.out
  obtain ⟨x0, x1⟩ := cells2 BX6.out
  obtain ⟨o0, o1, o2⟩ := cells3 BO6.out
  cases k2 : stOkB s
  · go_wp2_with (go_at_call 26; refine (crOk_any _).mono ?_; rintro e w' ⟨rfl, rfl⟩)
    go_ret
    exact ⟨rfl, hB6⟩
  by_cases k3 : who < 0
  · go_wp2_with (go_at_call 26; refine (crOk_any _).mono ?_; rintro e w' ⟨rfl, rfl⟩)
    go_ret
    exact ⟨rfl, hB6⟩
  by_cases k4 : 3 ≤ who
  · go_wp2_with (go_at_call 26; refine (crOk_any _).mono ?_; rintro e w' ⟨rfl, rfl⟩)
    go_ret
    exact ⟨rfl, hB6⟩
  go_wp2_with fail
  refine (spec_ReqOk r pd pl cd cl w6 HR6.out).mono ?_
  rintro e w7 ⟨rfl, hb7⟩
  have hs7 := hb7.size
  have BS7 := Hid.intro ((hb7.block S hS6).trans BS6.out)
  have BQ7 := Hid.intro ((hb7.block Q hQ6).trans BQ6.out)
  have BX7 := Hid.intro ((hb7.block X hX6).trans BX6.out)
  have BO7 := Hid.intro ((hb7.block O hO6).trans BO6.out)
  have HM7 := Hid.intro (HM6.out.below hb7)
  have HS7 := Hid.intro (HS6.out.below hb7)
  have HR7 := Hid.intro (HR6.out.below hb7)
  have HO7 := Hid.intro (HO6.out.below hb7)
  have hB7 := hB6.trans (hb7.mono hB6.size)
  have hS7 : S < w7.heap.size := by omega
  have hQ7 : Q < w7.heap.size := by omega
  have hX7 : X < w7.heap.size := by omega
  have hO7 : O < w7.heap.size := by omega
  clear hb7 hs7 BS6 BQ6 BX6 BO6 HM6 HS6 HR6 HO6 hB6 hS6 hQ6 hX6 hO6 s0 s1 r0 r1 r2 r3 r4 r5 r6 x0 x1 o0 o1 o2
  obtain ⟨s0, s1⟩ := cells2 BS7.out
  obtain ⟨r0, r1, r2, r3, r4, r5, r6⟩ := cells7 BQ7.out
  obtain ⟨x0, x1⟩ := cells2 BX7.out
  obtain ⟨o0, o1, o2⟩ := cells3 BO7.out
  cases k5 : reqOkB r
  · go_wp2_with (go_at_call 26; refine (crOk_any _).mono ?_; rintro e w' ⟨rfl, rfl⟩)
    go_ret
    exact ⟨rfl, hB7⟩
  have hok : atmOkB ms s who r = true := by
    have : inB who 0 2 = true := inB_t ⟨by omega, by omega⟩
    simp only [atmOkB, k1, k2, this, k5, Bool.and_self]
  have hdo : atmDo ms s who r = (zs, zr) := (atmZ_may hok).symm.trans HZ.out
  obtain ⟨p1, p2, p3, p4, ⟨p5, p6⟩, p7⟩ := atmOk_parts hok
  obtain ⟨q1, q2, q3⟩ := req_parts p7
  have HSl := Hid.intro (fun W h1 h2 => impl_ReqSlave (some ⟨b, 0, none⟩) c ms r pd pl cd cl W h1 xc xm h2)
  by_cases hz : wholeZ ms (burst r.addr r.many r.wrap) < 0
  · have hz1 : reqSlaveZ ms r = 3 := by simp [reqSlaveZ, k1, k5, slaveAt, hz]
    rw [hz1] at HSl
    have hc4 : zr.code = 4 := by
      rw [atmDo_none hz] at hdo
      injection hdo with e1 e2
      rw [← e2]
    have n4 : (zr.code == 4) = true := by simpa using hc4
    clear hok hdo p1 p2 p3 p4 p5 p6 p7 q1 q2 q3 hz hz1
    unfold reqV at HSl
    go_wp2_with fail
    refine (HSl.out w7 HM7.out HR7.out).mono ?_
    rintro e w8 ⟨rfl, hb8⟩
    have hs8 := hb8.size
    have BS8 := Hid.intro ((hb8.block S hS7).trans BS7.out)
    have BQ8 := Hid.intro ((hb8.block Q hQ7).trans BQ7.out)
    have BX8 := Hid.intro ((hb8.block X hX7).trans BX7.out)
    have BO8 := Hid.intro ((hb8.block O hO7).trans BO7.out)
    have HM8 := Hid.intro (HM7.out.below hb8)
    have HS8 := Hid.intro (HS7.out.below hb8)
    have HR8 := Hid.intro (HR7.out.below hb8)
    have HO8 := Hid.intro (HO7.out.below hb8)
    have hB8 := hB7.trans (hb8.mono hB7.size)
    have hS8 : S < w8.heap.size := by omega
    have hQ8 : Q < w8.heap.size := by omega
    have hX8 : X < w8.heap.size := by omega
    have hO8 : O < w8.heap.size := by omega
    clear hb8 hs8 BS7 BQ7 BX7 BO7 HM7 HS7 HR7 HO7 hB7 hS7 hQ7 hX7 hO7 s0 s1 r0 r1 r2 r3 r4 r5 r6 x0 x1 o0 o1 o2
    obtain ⟨s0, s1⟩ := cells2 BS8.out
    obtain ⟨r0, r1, r2, r3, r4, r5, r6⟩ := cells7 BQ8.out
    obtain ⟨x0, x1⟩ := cells2 BX8.out
    obtain ⟨o0, o1, o2⟩ := cells3 BO8.out
    go_wp2
    go_ret
    exact ⟨by first | rfl | rw [n4] | simp [hc4], hB8⟩
  obtain ⟨i, hi, ei, eo⟩ := only_all k1 k5 hz
  have hcd := code_of hz hdo
  rw [eo] at hcd
  have hz1 : reqSlaveZ ms r = ms[i].sl := slave_at k1 k5 hi ei
  have hsl : ms[i].sl ≤ 2 := by
    have := ((mapOk_iff ms).1 k1).2.1 _ (List.getElem_mem hi)
    simp [rngOkB] at this
    omega
  rw [hz1] at HSl
  obtain ⟨sl, esl⟩ : ∃ v, v = ms[i].sl := ⟨_, rfl⟩
  rw [← esl] at HSl hsl
  have n3 : (sl == 3) = false := by simp; omega
  have n3' : ¬ sl = 3 := by omega
  have hkk : r.kind = 1 ∨ r.kind = 2 ∨ r.kind = 3 ∨ r.kind = 4 := by omega
  obtain ⟨n, en⟩ : ∃ n : Nat, who * 2 + r.id = (n : Int) := ⟨(who * 2 + r.id).toNat, by omega⟩
  have hn6 : n < s.holds.length := by omega
  have hgz : getZ s.holds (atR who r.id) = s.holds[n] := by
    have : atR who r.id = (n : Int) := en
    rw [this]
    obtain ⟨h, e⟩ := getZ_gets (ws := s.holds) (a := (n : Int)) (by omega) (by omega)
    rw [e]; simp
  rw [hgz] at hcd
  obtain ⟨hv, ehv⟩ : ∃ v, v = s.holds[n] := ⟨_, rfl⟩
  rw [← ehv] at hcd
  have Hhv : Hid (∃ h : n < s.holds.length, s.holds[n] = hv) := ⟨hn6, ehv.symm⟩
  have g1 : wrap64 (who * 2) = who * 2 := by unfold wrap64; omega
  have g2 : wrap64 (who * 2 + r.id) = (n : Int) := by rw [en]; unfold wrap64; omega
  have g3 : IntKind.i64.wrap (who * 2) = who * 2 := wrapI (by omega) (by omega)
  have g4 : IntKind.i64.wrap (who * 2 + r.id) = (n : Int) := by rw [en]; exact wrapI (by omega) (by omega)
  have HCd := Hid.intro hcd
  have HKk := Hid.intro hkk
  have Hn6 := Hid.intro hn6
  clear hok hdo p1 p2 p3 p4 p5 p6 p7 q1 q2 q3 hz hz1 hi ei eo hcd hgz ehv hkk hn6 hsl esl en
  unfold reqV at HSl
  go_wp2_with fail
  refine (HSl.out w7 HM7.out HR7.out).mono ?_
  rintro e w8 ⟨rfl, hb8⟩
  have hs8 := hb8.size
  have BS8 := Hid.intro ((hb8.block S hS7).trans BS7.out)
  have BQ8 := Hid.intro ((hb8.block Q hQ7).trans BQ7.out)
  have BX8 := Hid.intro ((hb8.block X hX7).trans BX7.out)
  have BO8 := Hid.intro ((hb8.block O hO7).trans BO7.out)
  have HM8 := Hid.intro (HM7.out.below hb8)
  have HS8 := Hid.intro (HS7.out.below hb8)
  have HR8 := Hid.intro (HR7.out.below hb8)
  have HO8 := Hid.intro (HO7.out.below hb8)
  have hB8 := hB7.trans (hb8.mono hB7.size)
  have hS8 : S < w8.heap.size := by omega
  have hQ8 : Q < w8.heap.size := by omega
  have hX8 : X < w8.heap.size := by omega
  have hO8 : O < w8.heap.size := by omega
  clear hb8 hs8 BS7 BQ7 BX7 BO7 HM7 HS7 HR7 HO7 hB7 hS7 hQ7 hX7 hO7 s0 s1 r0 r1 r2 r3 r4 r5 r6 x0 x1 o0 o1 o2
  obtain ⟨s0, s1⟩ := cells2 BS8.out
  obtain ⟨r0, r1, r2, r3, r4, r5, r6⟩ := cells7 BQ8.out
  obtain ⟨x0, x1⟩ := cells2 BX8.out
  obtain ⟨o0, o1, o2⟩ := cells3 BO8.out
  clear HSl
  go_wp2
  go_loopw [11, 12] (fun v i wr => ∃ k : Nat, k ≤ ms.length ∧ v = .bool (onlyIn ms r.addr k) ∧ i = .int .i64 k ∧ Below w8.heap.size w8 wr) (fun _ i _ => ms.length - (intOf i).toNat)
  case atStart => exact ⟨0, Nat.zero_le _, rfl, rfl, Below.refl _ _⟩
  case round =>
    obtain ⟨k, hkl, rfl, rfl, hbl⟩ := hrel
    clear s0 s1 r0 r1 r2 r3 r4 r5 r6 x0 x1 o0 o1 o2
    obtain ⟨r0, r1, r2, r3, r4, r5, r6⟩ := cells7 ((hbl.block Q hQ8).trans BQ8.out)
    by_cases hlt : k < ms.length
    · rcases HM8.out with hx | ⟨b', off, heq, hb', hcells⟩
      · rw [hx] at hlt; simp at hlt
      cases heq
      obtain ⟨mk, emk⟩ : ∃ m, m = ms[k]'hlt := ⟨_, rfl⟩
      have hall := hcells k hlt
      rw [← emk] at hall
      simp only [Nat.zero_add] at hall
      have u0 : wr.cell? ⟨b, k * 4, none⟩ = some (.int .i64 mk.fr) := (hbl.cell (p := ⟨b, k * 4, none⟩) hb').trans hall.1
      have u1 : wr.cell? ⟨b, k * 4 + 1, none⟩ = some (.int .i64 mk.tt) := (hbl.cell (p := ⟨b, k * 4 + 1, none⟩) hb').trans hall.2.1
      have u3 : wr.cell? ⟨b, k * 4 + 3, none⟩ = some (.bool mk.only) := (hbl.cell (p := ⟨b, k * 4 + 3, none⟩) hb').trans hall.2.2.2
      clear hall
      have hstep := onlyIn_step (a := r.addr) hlt
      rw [← emk] at hstep
      clear emk
      have HK := Hid.intro (show k + 1 ≤ ms.length by omega)
      have hk0 : (0 : Int) ≤ (k : Int) := by omega
      have hk1 : (k : Int) < (ms.length : Int) := by omega
      have hk7 : (k : Int) < 7 := by omega
      clear hcells BS8 BQ8 BX8 BO8 HM8 HS8 HR8 HO8 HCd HKk Hn6 g1 g2 g3 g4
      cases hprev : onlyIn ms r.addr k
      · cases ho : mk.only
        · rw [ho] at u3
          have HN : Hid (onlyIn ms r.addr (k + 1) = false) := Hid.intro (by rw [hstep, hprev]; simp [inRngB, *])
          clear hprev hstep
          go_wp2_with fail
          go_quiet (fail)
          all_goals go_wp2
          all_goals go_roundw
          case rel => exact ⟨k + 1, HK.out, by rw [HN.out], by go_num, by first | exact hbl.drew | exact ⟨hbl.os, hbl.tape, hbl.output, hbl.size, hbl.block⟩⟩
          case measure => have := HK.out; simp [intOf]; omega
        rw [ho] at u3
        by_cases hf : mk.fr ≤ r.addr
        case neg =>
          have hd1 : decide (mk.fr ≤ r.addr) = false := by simpa using hf
          have HN : Hid (onlyIn ms r.addr (k + 1) = false) := Hid.intro (by rw [hstep, hprev]; simp [inRngB, *])
          clear hprev hstep
          go_wp2_with fail
          go_quiet (fail)
          all_goals go_wp2
          all_goals go_roundw
          case rel => exact ⟨k + 1, HK.out, by rw [HN.out], by go_num, by first | exact hbl.drew | exact ⟨hbl.os, hbl.tape, hbl.output, hbl.size, hbl.block⟩⟩
          case measure => have := HK.out; simp [intOf]; omega
        by_cases ht : r.addr ≤ mk.tt
        case neg =>
          have hd1 : decide (mk.fr ≤ r.addr) = true := by simpa using hf
          have hd2 : decide (r.addr ≤ mk.tt) = false := by simpa using ht
          have HN : Hid (onlyIn ms r.addr (k + 1) = false) := Hid.intro (by rw [hstep, hprev]; simp [inRngB, *])
          clear hprev hstep
          go_wp2_with fail
          go_quiet (fail)
          all_goals go_wp2
          all_goals go_roundw
          case rel => exact ⟨k + 1, HK.out, by rw [HN.out], by go_num, by first | exact hbl.drew | exact ⟨hbl.os, hbl.tape, hbl.output, hbl.size, hbl.block⟩⟩
          case measure => have := HK.out; simp [intOf]; omega
        have hd1 : decide (mk.fr ≤ r.addr) = true := by simpa using hf
        have hd2 : decide (r.addr ≤ mk.tt) = true := by simpa using ht
        have HN : Hid (onlyIn ms r.addr (k + 1) = true) := Hid.intro (by rw [hstep, hprev]; simp [inRngB, *])
        clear hprev hstep
        go_wp2_with fail
        go_quiet (fail)
        all_goals go_wp2
        all_goals go_roundw
        case rel => exact ⟨k + 1, HK.out, by rw [HN.out], by go_num, by first | exact hbl.drew | exact ⟨hbl.os, hbl.tape, hbl.output, hbl.size, hbl.block⟩⟩
        case measure => have := HK.out; simp [intOf]; omega
      · cases ho : mk.only
        all_goals rw [ho] at u3
        all_goals (
          have HN : Hid (onlyIn ms r.addr (k + 1) = true) := Hid.intro (by rw [hstep, hprev]; simp [inRngB, *])
          clear hprev hstep
          go_wp2_with fail
          go_quiet (fail)
          all_goals go_wp2
          all_goals go_roundw
          case rel => exact ⟨k + 1, HK.out, by rw [HN.out], by go_num, by first | exact hbl.drew | exact ⟨hbl.os, hbl.tape, hbl.output, hbl.size, hbl.block⟩⟩
          case measure => have := HK.out; simp [intOf]; omega)
    · have hk3 : ¬ (k : Int) < (ms.length : Int) := by omega
      have hke : k = ms.length := by omega
      rw [hke]
      obtain ⟨bo, ebo⟩ : ∃ v, v = onlyIn ms r.addr ms.length := ⟨_, rfl⟩
      have hcd := HCd.out
      rw [← ebo] at hcd ⊢
      obtain ⟨s0, s1⟩ := cells2 ((hbl.block S hS8).trans BS8.out)
      obtain ⟨o0, o1, o2⟩ := cells3 ((hbl.block O hO8).trans BO8.out)
      rcases HS8.out.holds with hx | ⟨b', off, heq, hb', hcells⟩
      · have := Hn6.out; rw [hx] at this; simp at this
      cases heq
      have un := (hbl.cell (p := ⟨bh, oh + n, none⟩) hb').trans (hcells n Hn6.out)
      have hn0 : (0 : Int) ≤ (n : Int) := by omega
      have hn1 : (n : Int) < (s.holds.length : Int) := by have := Hn6.out; omega
      have hB9 := hB8.trans (hbl.mono hB8.size)
      obtain ⟨_, ehv⟩ := Hhv.out
      rw [ehv] at un
      have HKk := HKk.out
      clear hcells BS8 BQ8 BX8 BO8 HM8 HS8 HR8 HO8 HCd Hn6 hB8 ebo hke hbl
      have hfin : ∀ kd : Int, ∀ v : Int, r.kind = kd → zr.code = v → True := fun _ _ _ _ => trivial
      clear hfin
      rcases HKk with hk | hk | hk | hk
      · cases bo
        · have e2 : (r.kind == 2) = false := by simp [hk]
          have e3 : (r.kind == 3) = false := by simp [hk]
          have e4 : (r.kind == 4) = false := by simp [hk]
          have hcv : zr.code = 1 := by rw [hcd]; simp [writesB, hk]
          have hcb : (zr.code == 1) = true := by simpa using hcv
          clear hcd hk hcv
          go_wp2_with fail
          first | (go_quiet (fail); go_wp2) | go_wp2 | skip
          go_ret
          exact ⟨by first | rfl | (rw [hcb]) | simp [hcb], by first | exact hB9 | exact hB9.drew | exact ⟨hB9.os, hB9.tape, hB9.output, hB9.size, hB9.block⟩⟩
        · have e2 : (r.kind == 2) = false := by simp [hk]
          have e3 : (r.kind == 3) = false := by simp [hk]
          have e4 : (r.kind == 4) = false := by simp [hk]
          have hcv : zr.code = 1 := by rw [hcd]; simp [writesB, hk]
          have hcb : (zr.code == 1) = true := by simpa using hcv
          clear hcd hk hcv
          go_wp2_with fail
          first | (go_quiet (fail); go_wp2) | go_wp2 | skip
          go_ret
          exact ⟨by first | rfl | (rw [hcb]) | simp [hcb], by first | exact hB9 | exact hB9.drew | exact ⟨hB9.os, hB9.tape, hB9.output, hB9.size, hB9.block⟩⟩
      · cases bo
        · have e2 : (r.kind == 2) = true := by simp [hk]
          have e3 : (r.kind == 3) = false := by simp [hk]
          have e4 : (r.kind == 4) = false := by simp [hk]
          have hcv : zr.code = 1 := by rw [hcd]; simp [writesB, hk]
          have hcb : (zr.code == 1) = true := by simpa using hcv
          clear hcd hk hcv
          go_wp2_with fail
          first | (go_quiet (fail); go_wp2) | go_wp2 | skip
          go_ret
          exact ⟨by first | rfl | (rw [hcb]) | simp [hcb], by first | exact hB9 | exact hB9.drew | exact ⟨hB9.os, hB9.tape, hB9.output, hB9.size, hB9.block⟩⟩
        · have e2 : (r.kind == 2) = true := by simp [hk]
          have e3 : (r.kind == 3) = false := by simp [hk]
          have e4 : (r.kind == 4) = false := by simp [hk]
          have hcv : zr.code = 3 := by rw [hcd]; simp [writesB, hk]
          have hcb : (zr.code == 3) = true := by simpa using hcv
          clear hcd hk hcv
          go_wp2_with fail
          first | (go_quiet (fail); go_wp2) | go_wp2 | skip
          go_ret
          exact ⟨by first | rfl | (rw [hcb]) | simp [hcb], by first | exact hB9 | exact hB9.drew | exact ⟨hB9.os, hB9.tape, hB9.output, hB9.size, hB9.block⟩⟩
      · cases bo
        · have e2 : (r.kind == 2) = false := by simp [hk]
          have e3 : (r.kind == 3) = true := by simp [hk]
          have e4 : (r.kind == 4) = false := by simp [hk]
          have hcv : zr.code = 2 := by rw [hcd]; simp [writesB, hk]
          have hcb : (zr.code == 2) = true := by simpa using hcv
          clear hcd hk hcv
          go_wp2_with fail
          first | (go_quiet (fail); go_wp2) | go_wp2 | skip
          go_ret
          exact ⟨by first | rfl | (rw [hcb]) | simp [hcb], by first | exact hB9 | exact hB9.drew | exact ⟨hB9.os, hB9.tape, hB9.output, hB9.size, hB9.block⟩⟩
        · have e2 : (r.kind == 2) = false := by simp [hk]
          have e3 : (r.kind == 3) = true := by simp [hk]
          have e4 : (r.kind == 4) = false := by simp [hk]
          have hcv : zr.code = 2 := by rw [hcd]; simp [writesB, hk]
          have hcb : (zr.code == 2) = true := by simpa using hcv
          clear hcd hk hcv
          go_wp2_with fail
          first | (go_quiet (fail); go_wp2) | go_wp2 | skip
          go_ret
          exact ⟨by first | rfl | (rw [hcb]) | simp [hcb], by first | exact hB9 | exact hB9.drew | exact ⟨hB9.os, hB9.tape, hB9.output, hB9.size, hB9.block⟩⟩
      · cases bo
        · by_cases hh : hv = r.addr
          · have e2 : (r.kind == 2) = false := by simp [hk]
            have e3 : (r.kind == 3) = false := by simp [hk]
            have e4 : (r.kind == 4) = true := by simp [hk]
            have hcv : zr.code = 2 := by rw [hcd]; simp [writesB, hk, hh]
            have hcb : (zr.code == 2) = true := by simpa using hcv
            have hhb : (hv == r.addr) = true := by simpa using hh
            clear hcd hk hcv hh
            go_wp2_with fail
            first | (go_quiet (fail); go_wp2) | go_wp2 | skip
            go_ret
            exact ⟨by first | rfl | (rw [hcb]) | simp [hcb], by first | exact hB9 | exact hB9.drew | exact ⟨hB9.os, hB9.tape, hB9.output, hB9.size, hB9.block⟩⟩
          · have e2 : (r.kind == 2) = false := by simp [hk]
            have e3 : (r.kind == 3) = false := by simp [hk]
            have e4 : (r.kind == 4) = true := by simp [hk]
            have hcv : zr.code = 1 := by rw [hcd]; simp [writesB, hk, hh]
            have hcb : (zr.code == 1) = true := by simpa using hcv
            have hhb : (hv == r.addr) = false := by simpa using hh
            clear hcd hk hcv hh
            go_wp2_with fail
            first | (go_quiet (fail); go_wp2) | go_wp2 | skip
            go_ret
            exact ⟨by first | rfl | (rw [hcb]) | simp [hcb], by first | exact hB9 | exact hB9.drew | exact ⟨hB9.os, hB9.tape, hB9.output, hB9.size, hB9.block⟩⟩
        · have e2 : (r.kind == 2) = false := by simp [hk]
          have e3 : (r.kind == 3) = false := by simp [hk]
          have e4 : (r.kind == 4) = true := by simp [hk]
          have hcv : zr.code = 3 := by rw [hcd]; simp [writesB, hk]
          have hcb : (zr.code == 3) = true := by simpa using hcv
          clear hcd hk hcv
          go_wp2_with fail
          first | (go_quiet (fail); go_wp2) | go_wp2 | skip
          go_ret
          exact ⟨by first | rfl | (rw [hcb]) | simp [hcb], by first | exact hB9 | exact hB9.drew | exact ⟨hB9.os, hB9.tape, hB9.output, hB9.size, hB9.block⟩⟩

end Go.Proofs.Ytcjlmdjiddadfaa

/-
  Proved: how it goes is told. At every code (a row of bytes of any length) the law answers true and leaves its argument as it was. No condition.
-/
namespace Go.Proofs.Ytcjlmdjiddadfaa.fnAtmCode
open Go.ChangeShapes Go.WideShapes Go.ChangeAt Go.RowKit
set_option linter.unusedVariables false
set_option linter.unusedSimpArgs false

set_option maxRecDepth 100000 in
theorem lifted (hI : AtmDoC) (os : Os) (started : os.Started) (H : Type) (enc : TypeId × Value → H) :
    ReturnsInHanded {} Try.checked os 4 .any (Rows.fnAtmCodeSpec.pre6 enc Try.prog Try.f4 Rows.fnAtmCodeRow.domain false) (Rows.fnAtmCodeSpec.post enc Try.prog Try.f4 false true false false) := by
  refine returnsInHanded_of_change (C := Try.checked) ownB started (by kernel_rfl) Try.func4
    (ChangeSpec.witness6 (enc := enc) (C := Try.checked) false ⟨#[], #[.slice none 0 0], []⟩ 8 (by kernel_rfl) (by kernel_rfl) (by kernel_rfl) (by kernel_rfl)) ?_
  intro W base args ds gs before hval0 hW hcnd _
  have hval : ∀ (j : Nat) t v, Try.f4.params[j]? = some t → args[j]? = some v → Value.okWide Try.prog W .any base t v := hval0
  have hW' := hW
  obtain ⟨p, q, hA0, hV, rfl, hfz, hnd⟩ := hW
  have hA : DataW.TrodAll enc Try.prog W 0 (fun _ => true) true Try.f4.params.toList args.toList ds p := hA0
  rw [Try.params4] at hA hval
  obtain ⟨v0, vs0, d0, ds0, p0, q0, hargs, rfl, rfl, h0, r0⟩ := trodAll_cons hA
  obtain ⟨rfl, rfl, rfl⟩ := trodAll_nil r0
  obtain rfl : args = #[v0] := by cases args; simp_all
  obtain ⟨rfl, rfl⟩ := trodVars_none hV
  obtain ⟨a0, len0, cap0, rfl⟩ := okWide_slice Try.underlying22 (hval 0 22 v0 rfl rfl)
  have k0 := h0
  have lt0 : ∀ x ∈ p0, x.block < W.heap.size := by obtain ⟨m, hm⟩ := k0; exact DataW.trod_lt m _ _ _ hm
  obtain ⟨hx, hc, hm⟩ := open_bytes h0
  clear hA0 hval0
  refine (walkC_FnAtmCode hI a0 len0 cap0 W hc hm hx).mono fun e W' ⟨he, bel⟩ => ?_
  subst he
  exact ⟨_, rfl, _, _, _, [], _, [], hW', trodAll_mk1 (shut_bool Try.underlying4 _), (trodAll_cons_mk (Below.trod laidOutC (by kernel_rfl) (of_decide_eq_true (by kernel_rfl)) k0 bel lt0) trodAll_mk0), rfl, bel.frame _, fun h => by cases h⟩

theorem over (hI : AtmDoC) : Rows.fnAtmCodeRow.holds Try.pinned (OpenSpec.ofChange Rows.fnAtmCodeSpec) :=
  OpenClaim.holds_of_wide 4 Try.f4 rfl rfl rfl rfl rfl rfl rfl ⟨rfl, rfl, rfl, rfl, rfl⟩ rfl rfl rfl rfl rfl (by kernel_rfl) Try.func4 (by kernel_rfl)
    (of_decide_eq_true (by kernel_rfl)) (by unfold Func.isWrapper; first | (rw [if_pos (by decide +kernel)]; kernel_rfl) | (rw [if_neg (by decide +kernel)]; exact ⟨rfl, rfl⟩))
    (fun os started H enc _ => lifted hI os started H enc)

theorem proved_of (hI : AtmDoC) : Rows.FnAtmCodeSaid := over hI
end Go.Proofs.Ytcjlmdjiddadfaa.fnAtmCode

namespace Go.Proofs.Ytcjlmdjiddadfaa.fnAtmCode

theorem proved : Rows.FnAtmCodeSaid := proved_of impl_AtmDo
end Go.Proofs.Ytcjlmdjiddadfaa.fnAtmCode
