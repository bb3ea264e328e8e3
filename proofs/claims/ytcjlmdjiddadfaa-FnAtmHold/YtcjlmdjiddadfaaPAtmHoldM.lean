/-
  Proved: FnAtmHold.
-/
import Derived.Test.YtcjlmdjiddadfaaProg
import Derived.Test.YtcjlmdjiddadfaaCrOkM
import Derived.Test.YtcjlmdjiddadfaaSpcH
import Derived.Test.YtcjlmdjiddadfaaBurstM
import Derived.Test.YtcjlmdjiddadfaaRows
import Derived.Test.YtcjlmdjiddadfaaLawB
import Derived.Test.YtcjlmdjiddadfaaImpKM
/-
  The law FnAtmHold, walked, by what AtmDo of the program answers.
-/
namespace Go.Proofs.Ytcjlmdjiddadfaa
open Go.RowKit
set_option linter.unusedSimpArgs false
set_option linter.unusedVariables false

/-- the ways in which it goes, and who holds what behind it -/
theorem atm_holds {ms : List Rng} {s zs : Stt} {zr : Rsp} {who : Int} {r : Req} (h : atmOkB ms s who r = true) (hdo : atmDo ms s who r = (zs, zr)) :
    (((r.kind = 1 ∧ zr.code = 4) ∨ (r.kind = 2 ∧ zr.code = 4) ∨ (r.kind = 3 ∧ zr.code = 4) ∨ (r.kind = 4 ∧ zr.code = 4) ∨ (r.kind = 2 ∧ zr.code = 3) ∨ (r.kind = 4 ∧ zr.code = 3) ∨ (r.kind = 1 ∧ zr.code = 1) ∨ (r.kind = 4 ∧ zr.code = 1)) ∧ zs.holds = s.holds) ∨
    (((r.kind = 2 ∧ zr.code = 1) ∨ (r.kind = 4 ∧ zr.code = 2)) ∧ zs.holds = freeAll s.holds (burst r.addr r.many r.wrap)) ∨
    ((r.kind = 3 ∧ zr.code = 2) ∧ zs.holds = s.holds.set (atR who r.id).toNat r.addr) := by
  obtain ⟨h1, h2, h3, h4, h5, h6⟩ := atmOk_parts h
  obtain ⟨h7, h8, h9⟩ := req_parts h6
  have hk : r.kind = 1 ∨ r.kind = 2 ∨ r.kind = 3 ∨ r.kind = 4 := by omega
  by_cases hz : wholeZ ms (burst r.addr r.many r.wrap) < 0
  · rw [atmDo_none hz] at hdo
    injection hdo with e1 e2
    subst e1 e2
    refine .inl ⟨?_, rfl⟩
    simp; omega
  by_cases hw : (writesB r && onlyAt ms (wholeZ ms (burst r.addr r.many r.wrap))) = true
  · rw [atmDo_deny hz hw] at hdo
    injection hdo with e1 e2
    subst e1 e2
    have hwr : r.kind = 2 ∨ r.kind = 4 := by
      have : writesB r = true := (Bool.and_eq_true _ _ ▸ hw).1
      simpa [writesB] using this
    refine .inl ⟨?_, rfl⟩
    simp; omega
  rcases hk with hk | hk | hk | hk
  · rw [atmDo_read hz hk] at hdo
    injection hdo with e1 e2
    subst e1 e2
    exact .inl ⟨by simp [hk], rfl⟩
  · rw [atmDo_write hz hw hk] at hdo
    injection hdo with e1 e2
    subst e1 e2
    exact .inr (.inl ⟨by simp [hk], rfl⟩)
  · rw [atmDo_hold hz hk] at hdo
    injection hdo with e1 e2
    subst e1 e2
    exact .inr (.inr ⟨by simp [hk], rfl⟩)
  · by_cases hh : getZ s.holds (atR who r.id) = r.addr
    · rw [atmDo_swap hz hw hk hh] at hdo
      injection hdo with e1 e2
      subst e1 e2
      exact .inr (.inl ⟨by simp [hk], rfl⟩)
    · rw [atmDo_miss hz hw hk hh] at hdo
      injection hdo with e1 e2
      subst e1 e2
      exact .inl ⟨by simp [hk], rfl⟩

set_option maxRecDepth 100000 in
set_option maxHeartbeats 8000000 in
theorem walkC_FnAtmHold (hI : AtmDoC) (a : Option Addr) (len cap : Nat) (w : World) (hc : len ≤ cap) (hm : cap ≤ 9223372036854775807) (h : Bytes w w.heap.size a len) :
    Calls Try.prog 5 #[.slice a len cap] w fun e w' => e = .returned (.bool true) ∧ Below w.heap.size w w' := by
  by_cases hl : 1048576 < len
  · have hI1 : (1048576 : Int) < (len : Int) := by omega
    clear h hI
    go_enter Try.func5, Try.ntmps5
    go_wp2
    go_ret
    exact ⟨rfl, Below.refl _ _⟩
  have hI1 : ¬ (1048576 : Int) < (len : Int) := by omega
  have HB := Hid.intro h
  have HC := Hid.intro hI
  clear h hI
  go_enter Try.func5, Try.ntmps5
  go_wp2_with fail
  refine (drawAtmDo_any a len cap w hc hm HB.out).mono ?_
  rintro e w1 ⟨b, c, ms, s, bw, ow, cw, bh, oh, ch, who, r, pd, cd, pl, cl, rfl, hM, xc, xm, x1, x7, hS, y1, y2, hR, z1, z2, hb1⟩
  obtain ⟨zs, zr, hZ⟩ : ∃ zs zr, atmZ ms s who r = (zs, zr) := ⟨_, _, rfl⟩
  have HZ := Hid.intro hZ
  have HM := Hid.intro hM
  have HS := Hid.intro hS
  have HR := Hid.intro hR
  clear hM hS hR hZ
  unfold stV reqV
  go_wp2_with fail
  refine (atmF_at HC.out HZ.out (HM.out.below (below_two _ _ _)) xc xm (HS.out.below (below_two _ _ _)) (HR.out.below (below_two _ _ _))).mono ?_
  rintro e w2 ⟨qw, dw, qh, dh, qx, dx, rfl, hO, hb2⟩
  have hs1 := hb1.size
  have hs2 := hb2.size
  simp only [World.size_alloc] at hs2
  have bS : w2.heap[w1.heap.size]? = some (.cells #[.slice (some ⟨bw, ow, none⟩) s.words.length cw, .slice (some ⟨bh, oh, none⟩) s.holds.length ch] 28 (0, 0)) := (hb2.block _ (by simp; omega)).trans (two_at0 _ _ _)
  have bQ : w2.heap[w1.heap.size + 1]? = some (.cells #[.int .i64 r.id, .int .i64 r.kind, .int .i64 r.addr, .int .i64 r.many, .bool r.wrap, .slice pd r.data.length cd, .slice pl r.lanes.length cl] 30 (0, 0)) := (hb2.block _ (by simp)).trans (two_at1 _ _ _)
  have HM2 := Hid.intro ((HM.out.below (below_two _ _ _)).below hb2)
  have HS2 := Hid.intro ((HS.out.below (below_two _ _ _)).below hb2)
  have HR2 := Hid.intro ((HR.out.below (below_two _ _ _)).below hb2)
  have HO2 := Hid.intro hO
  have hB2 := (hb1.trans ((below_two w1 _ _).mono hb1.size)).trans (hb2.mono (by simp; omega))
  obtain ⟨S, eS⟩ : ∃ S, S = w1.heap.size := ⟨_, rfl⟩
  obtain ⟨Q, eQ⟩ : ∃ Q, Q = w1.heap.size + 1 := ⟨_, rfl⟩
  rw [← eQ] at bQ ⊢
  rw [← eS] at bS ⊢
  have hSl : S < w2.heap.size := by omega
  have hQl : Q < w2.heap.size := by omega
  have hnSQ : S ≠ Q := by omega
  clear hb1 hb2 hO HM HS HR eS eQ hs2 hs1
  obtain ⟨s0, s1⟩ := cells2 bS
  obtain ⟨r0, r1, r2, r3, r4, r5, r6⟩ := cells7 bQ
  have BS := Hid.intro bS
  have BQ := Hid.intro bQ
  clear bS bQ
  unfold stV rspV
  go_wp2_with fail
  refine (atmF_at spec_AtmDo HZ.out (HM2.out.below (below_two _ _ _)) xc xm (HS2.out.below (below_two _ _ _)) (HR2.out.below (below_two _ _ _))).mono ?_
  rintro e w3 ⟨kw, mw, kh, mh, kx, mx, rfl, hO, hb3⟩
  have hs3 := hb3.size
  simp only [World.size_alloc] at hs3
  have bX : w3.heap[w2.heap.size]? = some (.cells #[.slice qw zs.words.length dw, .slice qh zs.holds.length dh] 28 (0, 0)) := (hb3.block _ (by simp; omega)).trans (two_at0 _ _ _)
  have bO : w3.heap[w2.heap.size + 1]? = some (.cells #[.int .i64 zr.id, .int .i64 zr.code, .slice qx zr.data.length dx] 34 (0, 0)) := (hb3.block _ (by simp)).trans (two_at1 _ _ _)
  have hg3 : Below w2.heap.size w2 w3 := (below_two w2 _ _).trans (hb3.mono (by simp; omega))
  have bS := (hg3.block S hSl).trans BS.out
  have bQ := (hg3.block Q hQl).trans BQ.out
  have HM3 := Hid.intro (HM2.out.below hg3)
  have HS3 := Hid.intro (HS2.out.below hg3)
  have HR3 := Hid.intro (HR2.out.below hg3)
  have HO3 := Hid.intro (HO2.out.below hg3)
  have HK3 := Hid.intro hO
  have hB3 := hB2.trans (hg3.mono hB2.size)
  obtain ⟨X, eX⟩ : ∃ X, X = w2.heap.size := ⟨_, rfl⟩
  obtain ⟨O, eO⟩ : ∃ O, O = w2.heap.size + 1 := ⟨_, rfl⟩
  rw [← eO] at bO ⊢
  rw [← eX] at bX ⊢
  have hXl : X < w3.heap.size := by omega
  have hOl : O < w3.heap.size := by omega
  have hS3 : S < w3.heap.size := by omega
  have hQ3 : Q < w3.heap.size := by omega
  have hnSX : S ≠ X := by omega
  have hnQX : Q ≠ X := by omega
  have hnSO : S ≠ O := by omega
  have hnQO : Q ≠ O := by omega
  have hnXO : X ≠ O := by omega
  clear hb3 hg3 hO HM2 HS2 HR2 HO2 BS BQ s0 s1 r0 r1 r2 r3 r4 r5 r6 hB2 hSl hQl eX eO hs3
  obtain ⟨o0, o1, o2⟩ := cells3 bO
  have BS := Hid.intro bS
  have BQ := Hid.intro bQ
  have BX := Hid.intro bX
  have BO := Hid.intro bO
  clear bS bQ bX bO
  unfold stV rspV
  go_wp2_with fail
  refine (crRsp_same zr qx kx dx mx _ (HO3.out.rsp.below (below_two _ _ _)) (HK3.out.rsp.below (below_two _ _ _))).mono ?_
  rintro e w4 ⟨rfl, hb4⟩
  have hg4 : Below w3.heap.size w3 w4 := (below_two w3 _ _).trans (hb4.mono (by simp; omega))
  have hs4 := hg4.size
  have bS := (hg4.block S hS3).trans BS.out
  have bQ := (hg4.block Q hQ3).trans BQ.out
  have bX := (hg4.block X hXl).trans BX.out
  have bO := (hg4.block O hOl).trans BO.out
  have HM4 := Hid.intro (HM3.out.below hg4)
  have HS4 := Hid.intro (HS3.out.below hg4)
  have HR4 := Hid.intro (HR3.out.below hg4)
  have HO4 := Hid.intro (HO3.out.below hg4)
  have hB4 := hB3.trans (hg4.mono hB3.size)
  have hS4 : S < w4.heap.size := by omega
  have hQ4 : Q < w4.heap.size := by omega
  have hX4 : X < w4.heap.size := by omega
  have hO4 : O < w4.heap.size := by omega
  clear hb4 hg4 HM3 HS3 HR3 HO3 HK3 BS BQ BX BO o0 o1 o2 hB3 hXl hOl hS3 hQ3 hs4
  obtain ⟨s0, s1⟩ := cells2 bS
  obtain ⟨r0, r1, r2, r3, r4, r5, r6⟩ := cells7 bQ
  obtain ⟨x0, x1, x2⟩ := (⟨(cells2 bX).1, (cells2 bX).2, trivial⟩ : _ ∧ _ ∧ True)
  obtain ⟨o0, o1, o2⟩ := cells3 bO
  have BS := Hid.intro bS
  have BQ := Hid.intro bQ
  have BX := Hid.intro bX
  have BO := Hid.intro bO
  clear bS bQ bX bO x2
  by_cases hz : zr.code = 0
  · have n0 : (zr.code == 0) = true := by simpa using hz
    go_wp2_with (go_at_call 26; refine (crOk_any _).mono ?_; rintro e w' ⟨rfl, rfl⟩)
    go_ret
    exact ⟨rfl, hB4⟩
  have n0 : (zr.code == 0) = false := by simpa using hz
  obtain ⟨hok, hdo⟩ := atmZ_code HZ.out hz
  have hcase := atm_holds hok hdo
  obtain ⟨p1, p2, p3, p4, ⟨p5, p6⟩, p7⟩ := atmOk_parts hok
  obtain ⟨q1, q2, q3⟩ := req_parts p7
  obtain ⟨all, eall⟩ : ∃ l, l = burst r.addr r.many r.wrap := ⟨_, rfl⟩
  have HA := impl_AdrBurst r.addr r.many r.wrap w4
  rw [← eall] at hcase HA
  have HA := Hid.intro HA
  have HCa := Hid.intro hcase
  have Hok := Hid.intro hok
  have wr1 : wrap64 (who * 2) = who * 2 := by unfold wrap64; omega
  have wr2 : wrap64 (who * 2 + r.id) = who * 2 + r.id := by unfold wrap64; omega
  have hat : atR who r.id = who * 2 + r.id := rfl
  have HP5 := Hid.intro p5
  have HQ1 := Hid.intro q1
  clear hcase hok hdo p1 p2 p4 p7 q2 q3 eall hz q1
  go_wp2_with fail
  refine HA.out.mono ?_
  rintro e w5 ⟨p, cp, rfl, hi5, _, hc5, hm5, hb5, _⟩
  have bS := (hb5.block S hS4).trans BS.out
  have bQ := (hb5.block Q hQ4).trans BQ.out
  have bX := (hb5.block X hX4).trans BX.out
  have bO := (hb5.block O hO4).trans BO.out
  have HS5 := Hid.intro (HS4.out.below hb5)
  have HO5 := Hid.intro (HO4.out.below hb5)
  have HI5 := Hid.intro hi5
  have hB5 := hB4.trans (hb5.mono hB4.size)
  clear hi5 hb5 HA HM4 HS4 HR4 HO4 BS BQ BX BO s0 s1 r0 r1 r2 r3 r4 r5 r6 x0 x1 o0 o1 o2 hB4
  obtain ⟨s0, s1⟩ := cells2 bS
  obtain ⟨r0, r1, r2, r3, r4, r5, r6⟩ := cells7 bQ
  obtain ⟨x0, x1⟩ := cells2 bX
  obtain ⟨o0, o1, o2⟩ := cells3 bO
  clear bS bQ bX bO
  have hlen : zs.holds.length = s.holds.length := by
    rcases HCa.out with ⟨_, e⟩ | ⟨_, e⟩ | ⟨_, e⟩ <;> rw [e]
    · exact freeAll_len _ _
    · simp
  rcases HCa.out with ⟨hc, hh⟩ | ⟨hc, hh⟩ | ⟨hc, hh⟩
  · have hget : ∀ k (h1 : k < zs.holds.length) (h2 : k < s.holds.length), zs.holds[k] = s.holds[k] := by intro k h1 h2; simp only [hh]
    have HG := Hid.intro hget
    have HL := Hid.intro hlen
    clear hh hget hlen HCa
    rcases hc with ⟨hk, hc⟩ | ⟨hk, hc⟩ | ⟨hk, hc⟩ | ⟨hk, hc⟩ | ⟨hk, hc⟩ | ⟨hk, hc⟩ | ⟨hk, hc⟩ | ⟨hk, hc⟩
    all_goals (
      go_wp2
      go_loopw [13] (fun i wr => ∃ k : Nat, k ≤ s.holds.length ∧ i = .int .i64 k ∧ w5 = wr) (fun i _ => s.holds.length - (intOf i).toNat)
      case atStart => exact ⟨0, Nat.zero_le _, rfl, rfl⟩
      obtain ⟨k, hkl, rfl, rfl⟩ := hrel
      by_cases hlt : k < s.holds.length
      · rcases HS5.out.holds with hx | ⟨b, off, heq, hb, hcells⟩
        · rw [hx] at hlt; simp at hlt
        cases heq
        rcases HO5.out.st.holds with hx | ⟨b', off', rfl, hb', hcells'⟩
        · rw [← HL.out, hx] at hlt; simp at hlt
        have hk0 : (0 : Int) ≤ (k : Int) := by omega
        have hk1 : (k : Int) < (s.holds.length : Int) := by omega
        have hk2 : (k : Int) < (zs.holds.length : Int) := by have := HL.out; omega
        have hc1 := hcells k hlt
        have hc2 := hcells' k (by have := HL.out; omega)
        rw [HG.out k (by have := HL.out; omega) hlt] at hc2
        clear hcells hcells'
        go_wp2
        go_roundw
        case rel => exact ⟨k + 1, by omega, by go_num, by first | rfl | simp⟩
        case measure => simp [intOf]; omega
      · have hk' : k = s.holds.length := by omega
        have hk3 : ¬ (k : Int) < (s.holds.length : Int) := by omega
        go_wp2
        go_ret
        exact ⟨rfl, hB5⟩)
  · have hget : ∀ k (h1 : k < zs.holds.length) (h2 : k < s.holds.length), zs.holds[k] = free1 all s.holds[k] := by intro k h1 h2; simp only [hh, freeAll, List.getElem_map]
    have HG := Hid.intro hget
    have HL := Hid.intro hlen
    clear hh hget hlen HCa
    rcases hc with ⟨hk, hc⟩ | ⟨hk, hc⟩
    all_goals (
      go_wp2
      go_loopw [13] (fun i wr => ∃ k : Nat, k ≤ s.holds.length ∧ i = .int .i64 k ∧ w5 = wr) (fun i _ => s.holds.length - (intOf i).toNat)
      case atStart => exact ⟨0, Nat.zero_le _, rfl, rfl⟩
      obtain ⟨k, hkl, rfl, rfl⟩ := hrel
      by_cases hlt : k < s.holds.length
      · rcases HS5.out.holds with hx | ⟨b, off, heq, hb, hcells⟩
        · rw [hx] at hlt; simp at hlt
        cases heq
        rcases HO5.out.st.holds with hx | ⟨b', off', rfl, hb', hcells'⟩
        · rw [← HL.out, hx] at hlt; simp at hlt
        have hk0 : (0 : Int) ≤ (k : Int) := by omega
        have hk1 : (k : Int) < (s.holds.length : Int) := by omega
        have hk2 : (k : Int) < (zs.holds.length : Int) := by have := HL.out; omega
        have hc1 := hcells k hlt
        have hc2 := hcells' k (by have := HL.out; omega)
        rw [HG.out k (by have := HL.out; omega) hlt] at hc2
        clear hcells hcells'
        by_cases hm : s.holds[k] ∈ all
        · have hd : decide (s.holds[k] ∈ all) = true := decide_eq_true hm
          unfold free1 at hc2
          rw [if_pos hm] at hc2
          have HCr := crIn_any p cp all s.holds[k] w5 HI5.out hc5 hm5
          rw [hd] at HCr
          have HCr := Hid.intro HCr
          clear hm hd
          go_wp2_with (go_at_call 32; refine HCr.out.mono ?_; rintro e w6 ⟨rfl, rfl⟩)
          go_roundw
          case rel => exact ⟨k + 1, by omega, by go_num, by first | rfl | simp⟩
          case measure => simp [intOf]; omega
        · have hd : decide (s.holds[k] ∈ all) = false := decide_eq_false hm
          unfold free1 at hc2
          rw [if_neg hm] at hc2
          have HCr := crIn_any p cp all s.holds[k] w5 HI5.out hc5 hm5
          rw [hd] at HCr
          have HCr := Hid.intro HCr
          clear hm hd
          go_wp2_with (go_at_call 32; refine HCr.out.mono ?_; rintro e w6 ⟨rfl, rfl⟩)
          go_roundw
          case rel => exact ⟨k + 1, by omega, by go_num, by first | rfl | simp⟩
          case measure => simp [intOf]; omega
      · have hk' : k = s.holds.length := by omega
        have hk3 : ¬ (k : Int) < (s.holds.length : Int) := by omega
        go_wp2
        go_ret
        exact ⟨rfl, hB5⟩)
  · obtain ⟨hk, hc⟩ := hc
    have hget : ∀ k (h1 : k < zs.holds.length) (h2 : k < s.holds.length), zs.holds[k] = if (k : Int) = who * 2 + r.id then r.addr else s.holds[k] := by
      intro k h1 h2
      have := HP5.out
      have := HQ1.out
      simp only [hh, List.getElem_set]
      by_cases e : (k : Int) = who * 2 + r.id
      · rw [if_pos e, if_pos (show (atR who r.id).toNat = k by unfold atR; omega)]
      · rw [if_neg e, if_neg (show ¬ (atR who r.id).toNat = k by unfold atR; omega)]
    have HG := Hid.intro hget
    have HL := Hid.intro hlen
    clear hh hget hlen HCa
    go_wp2
    go_loopw [13] (fun i wr => ∃ k : Nat, k ≤ s.holds.length ∧ i = .int .i64 k ∧ w5 = wr) (fun i _ => s.holds.length - (intOf i).toNat)
    case atStart => exact ⟨0, Nat.zero_le _, rfl, rfl⟩
    case round =>
      obtain ⟨k, hkl, rfl, rfl⟩ := hrel
      by_cases hlt : k < s.holds.length
      · rcases HS5.out.holds with hx | ⟨b, off, heq, hb, hcells⟩
        · rw [hx] at hlt; simp at hlt
        cases heq
        rcases HO5.out.st.holds with hx | ⟨b', off', rfl, hb', hcells'⟩
        · rw [← HL.out, hx] at hlt; simp at hlt
        have hk0 : (0 : Int) ≤ (k : Int) := by omega
        have hk1 : (k : Int) < (s.holds.length : Int) := by omega
        have hk2 : (k : Int) < (zs.holds.length : Int) := by have := HL.out; omega
        have hc1 := hcells k hlt
        have hc2 := hcells' k (by have := HL.out; omega)
        rw [HG.out k (by have := HL.out; omega) hlt] at hc2
        clear hcells hcells'
        by_cases hm : (k : Int) = who * 2 + r.id
        · rw [if_pos hm] at hc2
          have hd : ((k : Int) == who * 2 + r.id) = true := by simpa using hm
          clear hm
          go_wp2
          go_roundw
          case rel => exact ⟨k + 1, by omega, by go_num, by first | rfl | simp⟩
          case measure => simp [intOf]; omega
        · rw [if_neg hm] at hc2
          have hd : ((k : Int) == who * 2 + r.id) = false := by simpa using hm
          clear hm
          go_wp2
          go_roundw
          case rel => exact ⟨k + 1, by omega, by go_num, by first | rfl | simp⟩
          case measure => simp [intOf]; omega
      · have hk' : k = s.holds.length := by omega
        have hk3 : ¬ (k : Int) < (s.holds.length : Int) := by omega
        go_wp2
        go_ret
        exact ⟨rfl, hB5⟩

end Go.Proofs.Ytcjlmdjiddadfaa

/-
  Proved: the law FnAtmHold: who writes frees, who holds holds, and else all hold what they held. At every code (a row of bytes of any length) the law answers true and leaves its argument as it was. No condition.
-/
namespace Go.Proofs.Ytcjlmdjiddadfaa.fnAtmHold
open Go.ChangeShapes Go.WideShapes Go.ChangeAt Go.RowKit
set_option linter.unusedVariables false
set_option linter.unusedSimpArgs false

set_option maxRecDepth 100000 in
theorem lifted (hI : AtmDoC) (os : Os) (started : os.Started) (H : Type) (enc : TypeId × Value → H) :
    ReturnsInHanded {} Try.checked os 5 .any (Rows.fnAtmHoldSpec.pre6 enc Try.prog Try.f5 Rows.fnAtmHoldRow.domain false) (Rows.fnAtmHoldSpec.post enc Try.prog Try.f5 false true false false) := by
  refine returnsInHanded_of_change (C := Try.checked) ownB started (by kernel_rfl) Try.func5
    (ChangeSpec.witness6 (enc := enc) (C := Try.checked) false ⟨#[], #[.slice none 0 0], []⟩ 8 (by kernel_rfl) (by kernel_rfl) (by kernel_rfl) (by kernel_rfl)) ?_
  intro W base args ds gs before hval0 hW hcnd _
  have hval : ∀ (j : Nat) t v, Try.f5.params[j]? = some t → args[j]? = some v → Value.okWide Try.prog W .any base t v := hval0
  have hW' := hW
  obtain ⟨p, q, hA0, hV, rfl, hfz, hnd⟩ := hW
  have hA : DataW.TrodAll enc Try.prog W 0 (fun _ => true) true Try.f5.params.toList args.toList ds p := hA0
  rw [Try.params5] at hA hval
  obtain ⟨v0, vs0, d0, ds0, p0, q0, hargs, rfl, rfl, h0, r0⟩ := trodAll_cons hA
  obtain ⟨rfl, rfl, rfl⟩ := trodAll_nil r0
  obtain rfl : args = #[v0] := by cases args; simp_all
  obtain ⟨rfl, rfl⟩ := trodVars_none hV
  obtain ⟨a0, len0, cap0, rfl⟩ := okWide_slice Try.underlying22 (hval 0 22 v0 rfl rfl)
  have k0 := h0
  have lt0 : ∀ x ∈ p0, x.block < W.heap.size := by obtain ⟨m, hm⟩ := k0; exact DataW.trod_lt m _ _ _ hm
  obtain ⟨hx, hc, hm⟩ := open_bytes h0
  clear hA0 hval0
  refine (walkC_FnAtmHold hI a0 len0 cap0 W hc hm hx).mono fun e W' ⟨he, bel⟩ => ?_
  subst he
  exact ⟨_, rfl, _, _, _, [], _, [], hW', trodAll_mk1 (shut_bool Try.underlying4 _), (trodAll_cons_mk (Below.trod laidOutC (by kernel_rfl) (of_decide_eq_true (by kernel_rfl)) k0 bel lt0) trodAll_mk0), rfl, bel.frame _, fun h => by cases h⟩

theorem over (hI : AtmDoC) : Rows.fnAtmHoldRow.holds Try.pinned (OpenSpec.ofChange Rows.fnAtmHoldSpec) :=
  OpenClaim.holds_of_wide 5 Try.f5 rfl rfl rfl rfl rfl rfl rfl ⟨rfl, rfl, rfl, rfl, rfl⟩ rfl rfl rfl rfl rfl (by kernel_rfl) Try.func5 (by kernel_rfl)
    (of_decide_eq_true (by kernel_rfl)) (by unfold Func.isWrapper; first | (rw [if_pos (by decide +kernel)]; kernel_rfl) | (rw [if_neg (by decide +kernel)]; exact ⟨rfl, rfl⟩))
    (fun os started H enc _ => lifted hI os started H enc)

theorem proved_of (hI : AtmDoC) : Rows.FnAtmHoldSaid := over hI
end Go.Proofs.Ytcjlmdjiddadfaa.fnAtmHold

namespace Go.Proofs.Ytcjlmdjiddadfaa.fnAtmHold

theorem proved : Rows.FnAtmHoldSaid := proved_of impl_AtmDo
end Go.Proofs.Ytcjlmdjiddadfaa.fnAtmHold
