/-
  Proved: what one asks is done, or not, at once. At every code (a row of bytes of any length) the law answers true and leaves its argument as it was. No condition.
-/
import Derived.Test.YtcjlmdjiddadfaaProg
import Derived.Test.YtcjlmdjiddadfaaCrOkM
import Derived.Test.YtcjlmdjiddadfaaSpcH
import Derived.Test.YtcjlmdjiddadfaaBurstM
import Derived.Test.YtcjlmdjiddadfaaWrd
import Derived.Test.YtcjlmdjiddadfaaImpA
import Derived.Test.YtcjlmdjiddadfaaImplS
import Derived.Test.YtcjlmdjiddadfaaSpcA
import Derived.Test.YtcjlmdjiddadfaaReq
import Derived.BigQuiet
import Derived.Deep.DeepCutAuto
import Derived.Deep.CutBlock
import Derived.Test.YtcjlmdjiddadfaaRows
import Derived.Test.YtcjlmdjiddadfaaLawB
import Derived.Test.YtcjlmdjiddadfaaImpKM
/-
  The law FnAtmDo, walked, by what AtmDo of the program answers.
-/
namespace Go.Proofs.Ytcjlmdjiddadfaa
open Go.RowKit
set_option linter.unusedSimpArgs false
set_option linter.unusedVariables false

def wroteB (r : Req) (x : Rsp) : Bool := ((r.kind == 2) && (x.code == 1)) || ((r.kind == 4) && (x.code == 2))
def readsB (r : Req) (x : Rsp) : Bool := ((r.kind == 1) && (x.code == 1)) || ((r.kind == 3) && (x.code == 2))
/-- what is written, and told -/
theorem atm_all {ms : List Rng} {s zs : Stt} {zr : Rsp} {who : Int} {r : Req} (h : atmOkB ms s who r = true) (hdo : atmDo ms s who r = (zs, zr)) :
    (wroteB r zr = true → zs.words = putAll s.words (burst r.addr r.many r.wrap) r.data r.lanes ∧ r.data.length = (burst r.addr r.many r.wrap).length ∧ r.lanes.length = (burst r.addr r.many r.wrap).length) ∧ (wroteB r zr = false → zs.words = s.words) ∧
    (readsB r zr = true → zr.data = getAll s.words (burst r.addr r.many r.wrap)) ∧ (readsB r zr = false → zr.data = []) := by
  obtain ⟨h1, h2, h3, h4, h5, h6⟩ := atmOk_parts h
  obtain ⟨h7, h8, h9⟩ := req_parts h6
  have hln := burst_ln h8
  have hk : r.kind = 1 ∨ r.kind = 2 ∨ r.kind = 3 ∨ r.kind = 4 := by omega
  by_cases hz : wholeZ ms (burst r.addr r.many r.wrap) < 0
  · rw [atmDo_none hz] at hdo
    injection hdo with e1 e2
    subst e1 e2
    refine ⟨fun hw => ?_, fun _ => rfl, fun hr => ?_, fun _ => rfl⟩
    · simp [wroteB] at hw
    · simp [readsB] at hr
  by_cases hw : (writesB r && onlyAt ms (wholeZ ms (burst r.addr r.many r.wrap))) = true
  · rw [atmDo_deny hz hw] at hdo
    injection hdo with e1 e2
    subst e1 e2
    refine ⟨fun hw => ?_, fun _ => rfl, fun hr => ?_, fun _ => rfl⟩
    · simp [wroteB] at hw
    · simp [readsB] at hr
  rcases hk with hk | hk | hk | hk
  · rw [atmDo_read hz hk] at hdo
    injection hdo with e1 e2
    subst e1 e2
    refine ⟨fun hw => ?_, fun _ => rfl, fun _ => rfl, fun hr => ?_⟩
    · simp [wroteB, hk] at hw
    · simp [readsB, hk] at hr
  · rw [atmDo_write hz hw hk] at hdo
    injection hdo with e1 e2
    subst e1 e2
    refine ⟨fun _ => ⟨rfl, by omega, by omega⟩, fun hr => ?_, fun hr => ?_, fun _ => rfl⟩
    · simp [wroteB, hk] at hr
    · simp [readsB, hk] at hr
  · rw [atmDo_hold hz hk] at hdo
    injection hdo with e1 e2
    subst e1 e2
    refine ⟨fun hw => ?_, fun _ => rfl, fun _ => rfl, fun hr => ?_⟩
    · simp [wroteB, hk] at hw
    · simp [readsB, hk] at hr
  · by_cases hh : getZ s.holds (atR who r.id) = r.addr
    · rw [atmDo_swap hz hw hk hh] at hdo
      injection hdo with e1 e2
      subst e1 e2
      refine ⟨fun _ => ⟨rfl, by omega, by omega⟩, fun hr => ?_, fun hr => ?_, fun _ => rfl⟩
      · simp [wroteB, hk] at hr
      · simp [readsB, hk] at hr
    · rw [atmDo_miss hz hw hk hh] at hdo
      injection hdo with e1 e2
      subst e1 e2
      refine ⟨fun hw => ?_, fun _ => rfl, fun hr => ?_, fun _ => rfl⟩
      · simp [wroteB, hk] at hw
      · simp [readsB, hk] at hr
/-- the word at n, k of the burst being put -/
def wantN (o : Int) (all data lanes : List Int) (wr : Bool) (n : Int) : Nat → Int
  | 0 => o
  | k + 1 => if (wr && (all.getD k 0 == n)) = true then wrdPutZ (wantN o all data lanes wr n k) (data.getD k 0) (lanes.getD k 0) else wantN o all data lanes wr n k
theorem wantN_no (o : Int) (all data lanes : List Int) (n : Int) : ∀ k, wantN o all data lanes false n k = o
  | 0 => rfl
  | k + 1 => by simp [wantN, wantN_no o all data lanes n k]
theorem wantN_put {ws all data lanes : List Int} (hp : ∀ x ∈ all, 0 ≤ x ∧ x ≤ 63) {n : Int} (h0 : 0 ≤ n) (h1 : n < ws.length) : ∀ k, k ≤ all.length → wantN (getZ ws n) all data lanes true n k = getZ (putN ws all data lanes k) n
  | 0, _ => rfl
  | k + 1, hk => by
    have hm : all.getD k 0 ∈ all := getD_mem (by omega)
    rw [putN, getZ_put1 _ _ _ (hp _ hm).1 h0 (by rw [putN_len]; exact h1), wantN, wantN_put hp h0 h1 k (by omega)]
    by_cases e : n = all.getD k 0
    · rw [if_pos e, if_pos (by simp [e]), ← e]
    · rw [if_neg e, if_neg (by simp; exact fun e' => e e'.symm)]
theorem want_end {ms : List Rng} {s zs : Stt} {zr : Rsp} {who : Int} {r : Req} (h : atmOkB ms s who r = true) (hdo : atmDo ms s who r = (zs, zr)) (n : Nat) (hn : n ≤ 63) :
    ∃ (h1 : n < s.words.length) (h2 : n < zs.words.length), wantN s.words[n] (burst r.addr r.many r.wrap) r.data r.lanes (wroteB r zr) (n : Int) (burst r.addr r.many r.wrap).length = zs.words[n] := by
  obtain ⟨p1, p2, p3, p4, p5, p7⟩ := atmOk_parts h
  obtain ⟨a1, a2, a3, a4⟩ := atm_all h hdo
  have hw := memOk_len p2
  have h1 : n < s.words.length := by omega
  have hz : getZ s.words (n : Int) = s.words[n] := by
    obtain ⟨_, e⟩ := getZ_gets (ws := s.words) (a := (n : Int)) (by omega) (by omega)
    rw [e]; simp
  cases hwr : wroteB r zr
  · have e := a2 hwr
    refine ⟨h1, by rw [e]; exact h1, ?_⟩
    rw [wantN_no]
    simp only [e]
  · obtain ⟨e, e1, e2⟩ := a1 hwr
    have hl : n < (putAll s.words (burst r.addr r.many r.wrap) r.data r.lanes).length := by rw [putAll_len]; exact h1
    refine ⟨h1, by rw [e]; exact hl, ?_⟩
    rw [← hz, wantN_put (fun x hx => burst_in x hx) (by omega) (by omega) _ (Nat.le_refl _)]
    simp only [e]
    obtain ⟨_, e'⟩ := getZ_gets (ws := putAll s.words (burst r.addr r.many r.wrap) r.data r.lanes) (a := (n : Int)) (by omega) (by omega)
    exact e'.trans (by simp)

set_option maxRecDepth 100000 in
set_option maxHeartbeats 8000000 in
theorem walkC_FnAtmDo (hI : AtmDoC) (a : Option Addr) (len cap : Nat) (w : World) (hc : len ≤ cap) (hm : cap ≤ 9223372036854775807) (h : Bytes w w.heap.size a len) :
    Calls Try.prog 3 #[.slice a len cap] w fun e w' => e = .returned (.bool true) ∧ Below w.heap.size w w' := by
  by_cases hl : 1048576 < len
  · have hI1 : (1048576 : Int) < (len : Int) := by omega
    clear h hI
    go_enter Try.func3, Try.ntmps3
    go_wp2
    go_ret
    exact ⟨rfl, Below.refl _ _⟩
  have hI1 : ¬ (1048576 : Int) < (len : Int) := by omega
  have HB := Hid.intro h
  have HC := Hid.intro hI
  clear h hI
  go_enter Try.func3, Try.ntmps3
  go_wp2_with fail
  refine (drawAtmDo_any a len cap w hc hm HB.out).mono ?_
  rintro e w1 ⟨b, c, ms, s, bw, ow, cw, bh, oh, ch, who, r, pd, cd, pl, cl, rfl, hM, xc, xm, x1, x7, hS, y1, y2, hR, z1, z2, hb1⟩
  obtain ⟨zs, zr, hZ⟩ : ∃ zs zr, atmZ ms s who r = (zs, zr) := ⟨_, _, rfl⟩
  have HZ := Hid.intro hZ
  have HM := Hid.intro hM
  have HS := Hid.intro hS
  have HR := Hid.intro hR
  clear hM hS hR hZ
  unfold stV reqV
  go_wp2_with fail
  refine (atmF_at HC.out HZ.out (HM.out.below (below_two _ _ _)) xc xm (HS.out.below (below_two _ _ _)) (HR.out.below (below_two _ _ _))).mono ?_
  rintro e w2 ⟨qw, dw, qh, dh, qx, dx, rfl, hO, hb2⟩
  have hs1 := hb1.size
  have hs2 := hb2.size
  simp only [World.size_alloc] at hs2
  have bS : w2.heap[w1.heap.size]? = some (.cells #[.slice (some ⟨bw, ow, none⟩) s.words.length cw, .slice (some ⟨bh, oh, none⟩) s.holds.length ch] 28 (0, 0)) := (hb2.block _ (by simp; omega)).trans (two_at0 _ _ _)
  have bQ : w2.heap[w1.heap.size + 1]? = some (.cells #[.int .i64 r.id, .int .i64 r.kind, .int .i64 r.addr, .int .i64 r.many, .bool r.wrap, .slice pd r.data.length cd, .slice pl r.lanes.length cl] 30 (0, 0)) := (hb2.block _ (by simp)).trans (two_at1 _ _ _)
  have HM2 := Hid.intro ((HM.out.below (below_two _ _ _)).below hb2)
  have HS2 := Hid.intro ((HS.out.below (below_two _ _ _)).below hb2)
  have HR2 := Hid.intro ((HR.out.below (below_two _ _ _)).below hb2)
  have HO2 := Hid.intro hO
  have hB2 := (hb1.trans ((below_two w1 _ _).mono hb1.size)).trans (hb2.mono (by simp; omega))
  obtain ⟨S, eS⟩ : ∃ S, S = w1.heap.size := ⟨_, rfl⟩
  obtain ⟨Q, eQ⟩ : ∃ Q, Q = w1.heap.size + 1 := ⟨_, rfl⟩
  rw [← eQ] at bQ ⊢
  rw [← eS] at bS ⊢
  have hSl : S < w2.heap.size := by omega
  have hQl : Q < w2.heap.size := by omega
  have hnSQ : S ≠ Q := by omega
  clear hb1 hb2 hO HM HS HR eS eQ hs2 hs1
  obtain ⟨s0, s1⟩ := cells2 bS
  obtain ⟨r0, r1, r2, r3, r4, r5, r6⟩ := cells7 bQ
  have BS := Hid.intro bS
  have BQ := Hid.intro bQ
  clear bS bQ
  unfold stV rspV
  go_wp2_with fail
  refine (atmF_at spec_AtmDo HZ.out (HM2.out.below (below_two _ _ _)) xc xm (HS2.out.below (below_two _ _ _)) (HR2.out.below (below_two _ _ _))).mono ?_
  rintro e w3 ⟨kw, mw, kh, mh, kx, mx, rfl, hO, hb3⟩
  have hs3 := hb3.size
  simp only [World.size_alloc] at hs3
  have bX : w3.heap[w2.heap.size]? = some (.cells #[.slice qw zs.words.length dw, .slice qh zs.holds.length dh] 28 (0, 0)) := (hb3.block _ (by simp; omega)).trans (two_at0 _ _ _)
  have bO : w3.heap[w2.heap.size + 1]? = some (.cells #[.int .i64 zr.id, .int .i64 zr.code, .slice qx zr.data.length dx] 34 (0, 0)) := (hb3.block _ (by simp)).trans (two_at1 _ _ _)
  have hg3 : Below w2.heap.size w2 w3 := (below_two w2 _ _).trans (hb3.mono (by simp; omega))
  have bS := (hg3.block S hSl).trans BS.out
  have bQ := (hg3.block Q hQl).trans BQ.out
  have HM3 := Hid.intro (HM2.out.below hg3)
  have HS3 := Hid.intro (HS2.out.below hg3)
  have HR3 := Hid.intro (HR2.out.below hg3)
  have HO3 := Hid.intro (HO2.out.below hg3)
  have HK3 := Hid.intro hO
  have hB3 := hB2.trans (hg3.mono hB2.size)
  obtain ⟨X, eX⟩ : ∃ X, X = w2.heap.size := ⟨_, rfl⟩
  obtain ⟨O, eO⟩ : ∃ O, O = w2.heap.size + 1 := ⟨_, rfl⟩
  rw [← eO] at bO ⊢
  rw [← eX] at bX ⊢
  have hXl : X < w3.heap.size := by omega
  have hOl : O < w3.heap.size := by omega
  have hS3 : S < w3.heap.size := by omega
  have hQ3 : Q < w3.heap.size := by omega
  have hnSX : S ≠ X := by omega
  have hnQX : Q ≠ X := by omega
  have hnSO : S ≠ O := by omega
  have hnQO : Q ≠ O := by omega
  have hnXO : X ≠ O := by omega
  clear hb3 hg3 hO HM2 HS2 HR2 HO2 BS BQ s0 s1 r0 r1 r2 r3 r4 r5 r6 hB2 hSl hQl eX eO hs3
  obtain ⟨x0, x1⟩ := cells2 bX
  have BS := Hid.intro bS
  have BQ := Hid.intro bQ
  have BX := Hid.intro bX
  have BO := Hid.intro bO
  clear bS bQ bX bO
  unfold stV rspV
  go_wp2_with fail
  refine (crAtm_same zs qw kw qh kh dw mw dh mh _ (HO3.out.st.below (below_two _ _ _)) (HK3.out.st.below (below_two _ _ _))).mono ?_
  rintro e wm ⟨rfl, hbm⟩
  have hgm : Below w3.heap.size w3 wm := (below_two w3 _ _).trans (hbm.mono (by simp; omega))
  have hsm := hbm.size
  simp only [World.size_alloc] at hsm
  have bV : wm.heap[w3.heap.size + 1]? = some (.cells #[.int .i64 zr.id, .int .i64 zr.code, .slice kx zr.data.length mx] 34 (0, 0)) := (hbm.block _ (by simp)).trans (two_at1 _ _ _)
  have bO := (hgm.block O hOl).trans BO.out
  obtain ⟨o0, o1, o2⟩ := cells3 bO
  obtain ⟨v0, v1, v2⟩ := cells3 bV
  have HOm := Hid.intro (HO3.out.rsp.below hgm)
  have HKm := Hid.intro (HK3.out.rsp.below hgm)
  clear x0 x1 bV bO hbm
  go_wp2_with fail
  refine (crRsp_same zr qx kx dx mx wm HOm.out HKm.out).mono ?_
  rintro e w4 ⟨rfl, hb4⟩
  have hg4 : Below w3.heap.size w3 w4 := hgm.trans (hb4.mono hgm.size)
  clear v0 v1 v2 HOm HKm hgm hsm
  have hs4 := hg4.size
  have bS := (hg4.block S hS3).trans BS.out
  have bQ := (hg4.block Q hQ3).trans BQ.out
  have bX := (hg4.block X hXl).trans BX.out
  have bO := (hg4.block O hOl).trans BO.out
  have HM4 := Hid.intro (HM3.out.below hg4)
  have HS4 := Hid.intro (HS3.out.below hg4)
  have HR4 := Hid.intro (HR3.out.below hg4)
  have HO4 := Hid.intro (HO3.out.below hg4)
  have hB4 := hB3.trans (hg4.mono hB3.size)
  have hS4 : S < w4.heap.size := by omega
  have hQ4 : Q < w4.heap.size := by omega
  have hX4 : X < w4.heap.size := by omega
  have hO4 : O < w4.heap.size := by omega
  clear hb4 hg4 HM3 HS3 HR3 HO3 HK3 BS BQ BX BO o0 o1 o2 hB3 hXl hOl hS3 hQ3 hs4
  obtain ⟨s0, s1⟩ := cells2 bS
  obtain ⟨r0, r1, r2, r3, r4, r5, r6⟩ := cells7 bQ
  obtain ⟨x0, x1, x2⟩ := (⟨(cells2 bX).1, (cells2 bX).2, trivial⟩ : _ ∧ _ ∧ True)
  obtain ⟨o0, o1, o2⟩ := cells3 bO
  have BS := Hid.intro bS
  have BQ := Hid.intro bQ
  have BX := Hid.intro bX
  have BO := Hid.intro bO
  clear bS bQ bX bO x2
  have BS4 := BS
  have BQ4 := BQ
  have BX4 := BX
  have BO4 := BO
  clear BS BQ BX BO
  go_wp2_with fail
  refine (spec_MapOk _ c ms w4 HM4.out xc xm).mono ?_
  rintro e w5 ⟨rfl, hb5⟩
  have hs5 := hb5.size
  have BS5 := Hid.intro ((hb5.block S hS4).trans BS4.out)
  have BQ5 := Hid.intro ((hb5.block Q hQ4).trans BQ4.out)
  have BX5 := Hid.intro ((hb5.block X hX4).trans BX4.out)
  have BO5 := Hid.intro ((hb5.block O hO4).trans BO4.out)
  have HM5 := Hid.intro (HM4.out.below hb5)
  have HS5 := Hid.intro (HS4.out.below hb5)
  have HR5 := Hid.intro (HR4.out.below hb5)
  have HO5 := Hid.intro (HO4.out.below hb5)
  have hB5 := hB4.trans (hb5.mono hB4.size)
  have hS5 : S < w5.heap.size := by omega
  have hQ5 : Q < w5.heap.size := by omega
  have hX5 : X < w5.heap.size := by omega
  have hO5 : O < w5.heap.size := by omega
  clear hb5 hs5 BS4 BQ4 BX4 BO4 HM4 HS4 HR4 HO4 hB4 hS4 hQ4 hX4 hO4 s0 s1 r0 r1 r2 r3 r4 r5 r6 x0 x1 o0 o1 o2
  obtain ⟨s0, s1⟩ := cells2 BS5.out
  obtain ⟨r0, r1, r2, r3, r4, r5, r6⟩ := cells7 BQ5.out
  obtain ⟨x0, x1⟩ := cells2 BX5.out
  obtain ⟨o0, o1, o2⟩ := cells3 BO5.out
  cases k1 : mapOkB ms
  · have hno : ¬ atmOkB ms s who r = true := fun h => absurd (k1.symm.trans (atmOk_and h).1) (by decide)
    have hzz := HZ.out
    rw [atmZ_not hno] at hzz
    injection hzz with e1 e2
    have hx0 : ((zs.holds.length : Int) == 0) = true := by rw [← e1]; rfl
    have hc0 : (zr.code == 0) = true := by rw [← e2]; rfl
    clear hno e1 e2
    go_wp2_with (go_at_call 26; refine (crOk_any _).mono ?_; rintro e w' ⟨rfl, rfl⟩)
    go_ret
    exact ⟨rfl, hB5⟩
  go_wp2_with fail
  refine (spec_AtmOk s _ _ cw ch w5 HS5.out).mono ?_
  rintro e w6 ⟨rfl, hb6⟩
  have hs6 := hb6.size
  have BS6 := Hid.intro ((hb6.block S hS5).trans BS5.out)
  have BQ6 := Hid.intro ((hb6.block Q hQ5).trans BQ5.out)
  have BX6 := Hid.intro ((hb6.block X hX5).trans BX5.out)
  have BO6 := Hid.intro ((hb6.block O hO5).trans BO5.out)
  have HM6 := Hid.intro (HM5.out.below hb6)
  have HS6 := Hid.intro (HS5.out.below hb6)
  have HR6 := Hid.intro (HR5.out.below hb6)
  have HO6 := Hid.intro (HO5.out.below hb6)
  have hB6 := hB5.trans (hb6.mono hB5.size)
  have hS6 : S < w6.heap.size := by omega
  have hQ6 : Q < w6.heap.size := by omega
  have hX6 : X < w6.heap.size := by omega
  have hO6 : O < w6.heap.size := by omega
  clear hb6 hs6 BS5 BQ5 BX5 BO5 HM5 HS5 HR5 HO5 hB5 hS5 hQ5 hX5 hO5 s0 s1 r0 r1 r2 r3 r4 r5 r6 x0 x1 o0 o1 o2
  obtain ⟨s0, s1⟩ := cells2 BS6.out
  obtain ⟨r0, r1, r2, r3, r4, r5, r6⟩ := cells7 BQ6.out
  obtain ⟨x0, x1⟩ := cells2 BX6.out
  obtain ⟨o0, o1, o2⟩ := cells3 BO6.out
  cases k2 : stOkB s
  · have hno : ¬ atmOkB ms s who r = true := fun h => absurd (k2.symm.trans (atmOk_and h).2.1) (by decide)
    have hzz := HZ.out
    rw [atmZ_not hno] at hzz
    injection hzz with e1 e2
    have hx0 : ((zs.holds.length : Int) == 0) = true := by rw [← e1]; rfl
    have hc0 : (zr.code == 0) = true := by rw [← e2]; rfl
    clear hno e1 e2
    go_wp2_with (go_at_call 26; refine (crOk_any _).mono ?_; rintro e w' ⟨rfl, rfl⟩)
    go_ret
    exact ⟨rfl, hB6⟩
  by_cases k3 : who < 0
  · have hno : ¬ atmOkB ms s who r = true := fun h => absurd (atmOk_parts h).2.2.2.2.1.1 (by omega)
    have hzz := HZ.out
    rw [atmZ_not hno] at hzz
    injection hzz with e1 e2
    have hx0 : ((zs.holds.length : Int) == 0) = true := by rw [← e1]; rfl
    have hc0 : (zr.code == 0) = true := by rw [← e2]; rfl
    clear hno e1 e2
    go_wp2_with (go_at_call 26; refine (crOk_any _).mono ?_; rintro e w' ⟨rfl, rfl⟩)
    go_ret
    exact ⟨rfl, hB6⟩
  by_cases k4 : 3 ≤ who
  · have hno : ¬ atmOkB ms s who r = true := fun h => absurd (atmOk_parts h).2.2.2.2.1.2 (by omega)
    have hzz := HZ.out
    rw [atmZ_not hno] at hzz
    injection hzz with e1 e2
    have hx0 : ((zs.holds.length : Int) == 0) = true := by rw [← e1]; rfl
    have hc0 : (zr.code == 0) = true := by rw [← e2]; rfl
    clear hno e1 e2
    go_wp2_with (go_at_call 26; refine (crOk_any _).mono ?_; rintro e w' ⟨rfl, rfl⟩)
    go_ret
    exact ⟨rfl, hB6⟩
  go_wp2_with fail
  refine (spec_ReqOk r pd pl cd cl w6 HR6.out).mono ?_
  rintro e w7 ⟨rfl, hb7⟩
  have hs7 := hb7.size
  have BS7 := Hid.intro ((hb7.block S hS6).trans BS6.out)
  have BQ7 := Hid.intro ((hb7.block Q hQ6).trans BQ6.out)
  have BX7 := Hid.intro ((hb7.block X hX6).trans BX6.out)
  have BO7 := Hid.intro ((hb7.block O hO6).trans BO6.out)
  have HM7 := Hid.intro (HM6.out.below hb7)
  have HS7 := Hid.intro (HS6.out.below hb7)
  have HR7 := Hid.intro (HR6.out.below hb7)
  have HO7 := Hid.intro (HO6.out.below hb7)
  have hB7 := hB6.trans (hb7.mono hB6.size)
  have hS7 : S < w7.heap.size := by omega
  have hQ7 : Q < w7.heap.size := by omega
  have hX7 : X < w7.heap.size := by omega
  have hO7 : O < w7.heap.size := by omega
  clear hb7 hs7 BS6 BQ6 BX6 BO6 HM6 HS6 HR6 HO6 hB6 hS6 hQ6 hX6 hO6 s0 s1 r0 r1 r2 r3 r4 r5 r6 x0 x1 o0 o1 o2
  obtain ⟨s0, s1⟩ := cells2 BS7.out
  obtain ⟨r0, r1, r2, r3, r4, r5, r6⟩ := cells7 BQ7.out
  obtain ⟨x0, x1⟩ := cells2 BX7.out
  obtain ⟨o0, o1, o2⟩ := cells3 BO7.out
  cases k5 : reqOkB r
  · have hno : ¬ atmOkB ms s who r = true := fun h => absurd (k5.symm.trans (atmOk_and h).2.2.2) (by decide)
    have hzz := HZ.out
    rw [atmZ_not hno] at hzz
    injection hzz with e1 e2
    have hx0 : ((zs.holds.length : Int) == 0) = true := by rw [← e1]; rfl
    have hc0 : (zr.code == 0) = true := by rw [← e2]; rfl
    clear hno e1 e2
    go_wp2_with (go_at_call 26; refine (crOk_any _).mono ?_; rintro e w' ⟨rfl, rfl⟩)
    go_ret
    exact ⟨rfl, hB7⟩
  have hok : atmOkB ms s who r = true := by
    have : inB who 0 2 = true := inB_t ⟨by omega, by omega⟩
    simp only [atmOkB, k1, k2, this, k5, Bool.and_self]
  have hdo : atmDo ms s who r = (zs, zr) := (atmZ_may hok).symm.trans HZ.out
  have hst := atmDo_ok hok
  have hrs := atmDo_rsp hok
  rw [hdo] at hst hrs
  obtain ⟨hrk, hid⟩ := hrs
  have hend := fun n hn => want_end hok hdo n hn
  obtain ⟨al1, al2, al3, al4⟩ := atm_all hok hdo
  obtain ⟨p1, p2, p3, p4, ⟨p5, p6⟩, p7⟩ := atmOk_parts hok
  have hbi := fun x hx => burst_in (x := r.addr) (m := r.many) (wrap := r.wrap) x hx
  have hbl4 := burst_le r.addr r.many r.wrap
  have hA0 := impl_AdrBurst r.addr r.many r.wrap
  obtain ⟨all, eall⟩ : ∃ l, l = burst r.addr r.many r.wrap := ⟨_, rfl⟩
  rw [← eall] at hend al1 al3 hbi hbl4 hA0
  have hw64 := memOk_len p2
  have HEnd := Hid.intro hend
  have Hal1 := Hid.intro al1
  have Hal3 := Hid.intro al3
  have Hal4 := Hid.intro al4
  have Hbi := Hid.intro hbi
  have HA := Hid.intro hA0
  have Hw := Hid.intro hw64
  have Hid1 := Hid.intro hid
  have Hst := Hid.intro hst
  have Hrk := Hid.intro hrk
  clear hid hst hrk hok hdo hend al1 al2 al3 al4 p1 p2 p3 p4 p5 p6 p7 hbi hA0 eall hw64
  go_wp2_with fail
  refine (impl_AtmOk zs qw qh dw dh w7 HO7.out.st).mono ?_
  rintro e w8 ⟨rfl, hb8⟩
  have hs8 := hb8.size
  have BS8 := Hid.intro ((hb8.block S hS7).trans BS7.out)
  have BQ8 := Hid.intro ((hb8.block Q hQ7).trans BQ7.out)
  have BX8 := Hid.intro ((hb8.block X hX7).trans BX7.out)
  have BO8 := Hid.intro ((hb8.block O hO7).trans BO7.out)
  have HM8 := Hid.intro (HM7.out.below hb8)
  have HS8 := Hid.intro (HS7.out.below hb8)
  have HR8 := Hid.intro (HR7.out.below hb8)
  have HO8 := Hid.intro (HO7.out.below hb8)
  have hB8 := hB7.trans (hb8.mono hB7.size)
  have hS8 : S < w8.heap.size := by omega
  have hQ8 : Q < w8.heap.size := by omega
  have hX8 : X < w8.heap.size := by omega
  have hO8 : O < w8.heap.size := by omega
  clear hb8 hs8 BS7 BQ7 BX7 BO7 HM7 HS7 HR7 HO7 hB7 hS7 hQ7 hX7 hO7 s0 s1 r0 r1 r2 r3 r4 r5 r6 x0 x1 o0 o1 o2
  obtain ⟨s0, s1⟩ := cells2 BS8.out
  obtain ⟨r0, r1, r2, r3, r4, r5, r6⟩ := cells7 BQ8.out
  obtain ⟨x0, x1⟩ := cells2 BX8.out
  obtain ⟨o0, o1, o2⟩ := cells3 BO8.out
  rw [Hst.out]
  go_wp2_with fail
  refine (impl_RspOk zr qx dx w8 HO8.out.rsp).mono ?_
  rintro e w9 ⟨rfl, hb9⟩
  have hs9 := hb9.size
  have BS9 := Hid.intro ((hb9.block S hS8).trans BS8.out)
  have BQ9 := Hid.intro ((hb9.block Q hQ8).trans BQ8.out)
  have BX9 := Hid.intro ((hb9.block X hX8).trans BX8.out)
  have BO9 := Hid.intro ((hb9.block O hO8).trans BO8.out)
  have HM9 := Hid.intro (HM8.out.below hb9)
  have HS9 := Hid.intro (HS8.out.below hb9)
  have HR9 := Hid.intro (HR8.out.below hb9)
  have HO9 := Hid.intro (HO8.out.below hb9)
  have hB9 := hB8.trans (hb9.mono hB8.size)
  have hS9 : S < w9.heap.size := by omega
  have hQ9 : Q < w9.heap.size := by omega
  have hX9 : X < w9.heap.size := by omega
  have hO9 : O < w9.heap.size := by omega
  clear hb9 hs9 BS8 BQ8 BX8 BO8 HM8 HS8 HR8 HO8 hB8 hS8 hQ8 hX8 hO8 s0 s1 r0 r1 r2 r3 r4 r5 r6 x0 x1 o0 o1 o2
  obtain ⟨s0, s1⟩ := cells2 BS9.out
  obtain ⟨r0, r1, r2, r3, r4, r5, r6⟩ := cells7 BQ9.out
  obtain ⟨x0, x1⟩ := cells2 BX9.out
  obtain ⟨o0, o1, o2⟩ := cells3 BO9.out
  rw [Hrk.out]
  have hidb : (zr.id == r.id) = true := by simpa using Hid1.out
  have hidc : (zr.id != r.id) = false := by simpa using Hid1.out
  go_wp2_with fail
  refine (HA.out _).mono ?_
  rintro e w10 ⟨p, cp, rfl, hi10, _, hc10, hm10, hb10, _⟩
  have hs10 := hb10.size
  have BS10 := Hid.intro ((hb10.block S hS9).trans BS9.out)
  have BQ10 := Hid.intro ((hb10.block Q hQ9).trans BQ9.out)
  have BX10 := Hid.intro ((hb10.block X hX9).trans BX9.out)
  have BO10 := Hid.intro ((hb10.block O hO9).trans BO9.out)
  have HM10 := Hid.intro (HM9.out.below hb10)
  have HS10 := Hid.intro (HS9.out.below hb10)
  have HR10 := Hid.intro (HR9.out.below hb10)
  have HO10 := Hid.intro (HO9.out.below hb10)
  have hB10 := hB9.trans (hb10.mono hB9.size)
  have hS10 : S < w10.heap.size := by omega
  have hQ10 : Q < w10.heap.size := by omega
  have hX10 : X < w10.heap.size := by omega
  have hO10 : O < w10.heap.size := by omega
  clear hb10 hs10 BS9 BQ9 BX9 BO9 HM9 HS9 HR9 HO9 hB9 hS9 hQ9 hX9 hO9 s0 s1 r0 r1 r2 r3 r4 r5 r6 x0 x1 o0 o1 o2
  obtain ⟨s0, s1⟩ := cells2 BS10.out
  obtain ⟨r0, r1, r2, r3, r4, r5, r6⟩ := cells7 BQ10.out
  obtain ⟨x0, x1⟩ := cells2 BX10.out
  obtain ⟨o0, o1, o2⟩ := cells3 BO10.out
  have HI10 := Hid.intro hi10
  clear hi10 HA hidb hidc Hid1 Hst Hrk
  go_upto_region 13 with fail
  go_cut [12] from 18 to 126 (fun s12 wx => wx = w10 ∧ s12 = .bool (wroteB r zr))
  case first =>
    cases e1 : (r.kind == 2)
    · cases e3 : (r.kind == 4)
      · go_wp2
        go_meet
        exact ⟨rfl, by simp only [wroteB, e1, e3, Bool.false_and, Bool.or_self]⟩
      · cases e4 : (zr.code == 2)
        · go_wp2
          go_meet
          exact ⟨rfl, by simp only [wroteB, e1, e3, e4, Bool.false_and, Bool.and_false, Bool.or_self]⟩
        · go_wp2
          go_meet
          exact ⟨rfl, by simp only [wroteB, e1, e3, e4, Bool.false_and, Bool.and_self, Bool.or_true]⟩
    · cases e2 : (zr.code == 1)
      · have e3 : (r.kind == 4) = false := by have := eq_of_beq e1; simp [this]
        go_wp2
        go_meet
        exact ⟨rfl, by simp only [wroteB, e1, e2, e3, Bool.false_and, Bool.and_false, Bool.or_self]⟩
      · go_wp2
        go_meet
        exact ⟨rfl, by simp only [wroteB, e1, e2, Bool.and_self, Bool.true_or]⟩
  case rest =>
    obtain ⟨hwx, rfl⟩ := hcut
    subst hwx
    obtain ⟨wA, hwA⟩ : ∃ wA, wA = wc := ⟨_, rfl⟩
    subst hwA
    obtain ⟨wB, ewB⟩ : ∃ v, v = wroteB r zr := ⟨_, rfl⟩
    rw [← ewB] at HEnd Hal1 ⊢
    clear ewB s0 s1 r0 r1 r2 r3 r4 r5 r6 x0 x1 o0 o1 o2
    go_wp2
    go_loopw [13] (fun i wr => ∃ n : Nat, n ≤ 64 ∧ i = .int .i64 n ∧ Below wA.heap.size wA wr) (fun i _ => 64 - (intOf i).toNat)
    case atStart => exact ⟨0, by omega, rfl, Below.refl _ _⟩
    case round =>
      obtain ⟨n, hnl, rfl, hbn⟩ := hrel
      by_cases hlt : n < 64
      · obtain ⟨h1, h2, hee⟩ := HEnd.out n (by omega)
        rcases HS10.out.words with hx | ⟨b', off', heq, hb', hcs⟩
        · rw [hx] at h1; simp at h1
        cases heq
        rcases HO10.out.st.words with hx | ⟨b2, f2, rfl, g2, hcx⟩
        · rw [hx] at h2; simp at h2
        have un := (hbn.cell (p := ⟨bw, ow + n, none⟩) hb').trans (hcs n h1)
        have vn := hcx n h2
        obtain ⟨ov, eov⟩ : ∃ v, v = s.words[n] := ⟨_, rfl⟩
        rw [← eov] at un hee
        obtain ⟨xv, exv⟩ : ∃ v, v = zs.words[n] := ⟨_, rfl⟩
        rw [← exv] at vn hee
        have HVn := Hid.intro vn
        have HEe := Hid.intro hee
        obtain ⟨s0, s1⟩ := cells2 ((hbn.block S hS10).trans BS10.out)
        have hn0 : (0 : Int) ≤ (n : Int) := by omega
        have hn1 : (n : Int) < (s.words.length : Int) := by omega
        have hn2 : (n : Int) < (zs.words.length : Int) := by omega
        have hn3 : (n : Int) ≤ 63 := by omega
        clear hcs hcx vn hee eov exv h1 h2
        go_wp2
        clear s0 s1 un
        go_loopw [14, 15] (fun v i wr2 => ∃ k : Nat, k ≤ all.length ∧ v = .int .i64 (wantN ov all r.data r.lanes wB (n : Int) k) ∧ i = .int .i64 k ∧ Below wA.heap.size wA wr2) (fun _ i _ => all.length - (intOf i).toNat)
        case atStart => exact ⟨0, Nat.zero_le _, rfl, rfl, hbn⟩
        case round =>
          obtain ⟨k, hkl, rfl, rfl, hbk⟩ := hrel
          by_cases hkt : k < all.length
          · rcases HI10.out with hx | ⟨b0, f0, rfl, g0, hc0⟩
            · rw [hx] at hkt; simp at hkt
            have u0 := (hbk.cell (p := ⟨b0, f0 + k, none⟩) g0).trans (hc0 k hkt)
            obtain ⟨av, eav⟩ : ∃ v, v = all[k] := ⟨_, rfl⟩
            rw [← eav] at u0
            have hgd : all.getD k 0 = av := by rw [eav]; simp [List.getD_eq_getElem?_getD, hkt]
            have hstep : wantN ov all r.data r.lanes wB (n : Int) (k + 1) = if (wB && (av == (n : Int))) = true then wrdPutZ (wantN ov all r.data r.lanes wB (n : Int) k) (r.data.getD k 0) (r.lanes.getD k 0) else wantN ov all r.data r.lanes wB (n : Int) k := by rw [← hgd]; rfl
            have hk0 : (0 : Int) ≤ (k : Int) := by omega
            have hk1 : (k : Int) < (all.length : Int) := by omega
            have hk4 : (k : Int) < 4 := by omega
            have HK := Hid.intro (show k + 1 ≤ all.length by omega)
            clear hc0 eav hgd HEnd HVn HEe
            cases wB
            · have HN := Hid.intro (hstep.trans (if_neg (by simp)))
              clear hstep
              go_wp2
              go_roundw
              case rel => exact ⟨k + 1, HK.out, by rw [HN.out], by go_num, hbk⟩
              case measure => have := HK.out; simp [intOf]; omega
            by_cases he : av = (n : Int)
            · obtain ⟨_, d1, d2⟩ := Hal1.out rfl
              rcases HR10.out.data with hx | ⟨b3, f3, rfl, g3, hc3⟩
              · rw [hx] at d1; simp at d1; omega
              rcases HR10.out.lanes with hx | ⟨b4, f4, rfl, g4, hc4⟩
              · rw [hx] at d2; simp at d2; omega
              have u3 := (hbk.cell (p := ⟨b3, f3 + k, none⟩) g3).trans (hc3 k (by omega))
              have u4 := (hbk.cell (p := ⟨b4, f4 + k, none⟩) g4).trans (hc4 k (by omega))
              have e3 : r.data.getD k 0 = r.data[k]'(by omega) := by simp [List.getD_eq_getElem?_getD, show k < r.data.length by omega]
              have e4 : r.lanes.getD k 0 = r.lanes[k]'(by omega) := by simp [List.getD_eq_getElem?_getD, show k < r.lanes.length by omega]
              rw [← e3] at u3
              rw [← e4] at u4
              obtain ⟨vb, evb⟩ : ∃ v, v = r.data.getD k 0 := ⟨_, rfl⟩
              obtain ⟨vc, evc⟩ : ∃ v, v = r.lanes.getD k 0 := ⟨_, rfl⟩
              rw [← evb] at u3 hstep
              rw [← evc] at u4 hstep
              have i2 : (k : Int) < (r.data.length : Int) := by omega
              have i3 : (k : Int) < (r.lanes.length : Int) := by omega
              obtain ⟨wv, ewv⟩ : ∃ v, v = wantN ov all r.data r.lanes true (n : Int) k := ⟨_, rfl⟩
              rw [← ewv] at hstep ⊢
              have HN := Hid.intro (hstep.trans (if_pos (by simp [he])))
              have HP := Hid.intro (fun W => impl_WrdPut wv vb vc W)
              obtain ⟨vz, evz⟩ : ∃ v, v = wrdPutZ wv vb vc := ⟨_, rfl⟩
              rw [← evz] at HP HN
              have heb : (av == (n : Int)) = true := by simpa using he
              obtain ⟨r0, r1, r2, r3, r4, r5, r6⟩ := cells7 ((hbk.block Q hQ10).trans BQ10.out)
              clear hstep he hc3 hc4 e3 e4 evb evc ewv evz d1 d2
              go_wp2_with fail
              go_quiet ((go_at_call 30; exact Calls.quiet_of_same (HP.out _)))
              all_goals go_wp2
              all_goals go_roundw
              case rel => exact ⟨k + 1, HK.out, by rw [HN.out], by go_num, by first | exact hbk.drew | exact ⟨hbk.os, hbk.tape, hbk.output, hbk.size, hbk.block⟩⟩
              case measure => have := HK.out; simp [intOf]; omega
            · have heb : (av == (n : Int)) = false := by simpa using he
              have HN := Hid.intro (hstep.trans (if_neg (by simp [he])))
              clear hstep
              go_wp2
              go_roundw
              case rel => exact ⟨k + 1, HK.out, by rw [HN.out], by go_num, hbk⟩
              case measure => have := HK.out; simp [intOf]; omega
          · have hke : k = all.length := by omega
            have hk3 : ¬ (k : Int) < (all.length : Int) := by omega
            subst hke
            rw [HEe.out]
            have vn := (hbk.cell (p := ⟨b2, f2 + n, none⟩) g2).trans HVn.out
            obtain ⟨x0, x1⟩ := cells2 ((hbk.block X hX10).trans BX10.out)
            clear HEnd HVn HEe
            go_wp2
            go_roundw
            case rel => exact ⟨n + 1, by omega, by go_num, hbk⟩
            case measure => simp [intOf]; omega
      · have hn3 : ¬ (n : Int) ≤ 63 := by omega
        obtain ⟨r0, r1, r2, r3, r4, r5, r6⟩ := cells7 ((hbn.block Q hQ10).trans BQ10.out)
        obtain ⟨o0, o1, o2⟩ := cells3 ((hbn.block O hO10).trans BO10.out)
        clear HEnd Hal1
        go_upto_region 25 with fail
        go_cut [16] from 127 to 189 (fun s16 wx => wx = wr ∧ s16 = .bool (readsB r zr))
        case first =>
          cases e1 : (r.kind == 1)
          · cases e3 : (r.kind == 3)
            · go_wp2
              go_meet
              exact ⟨rfl, by simp only [readsB, e1, e3, Bool.false_and, Bool.or_self]⟩
            · cases e4 : (zr.code == 2)
              · go_wp2
                go_meet
                exact ⟨rfl, by simp only [readsB, e1, e3, e4, Bool.false_and, Bool.and_false, Bool.or_self]⟩
              · go_wp2
                go_meet
                exact ⟨rfl, by simp only [readsB, e1, e3, e4, Bool.false_and, Bool.and_self, Bool.or_true]⟩
          · cases e2 : (zr.code == 1)
            · have e3 : (r.kind == 3) = false := by have := eq_of_beq e1; simp [this]
              go_wp2
              go_meet
              exact ⟨rfl, by simp only [readsB, e1, e2, e3, Bool.false_and, Bool.and_false, Bool.or_self]⟩
            · go_wp2
              go_meet
              exact ⟨rfl, by simp only [readsB, e1, e2, Bool.and_self, Bool.true_or]⟩
        case rest =>
          obtain ⟨hwx, rfl⟩ := hcut
          subst hwx
          have hBz := hB10.trans (hbn.mono hB10.size)
          cases hr : readsB r zr
          · have hd0 : ((zr.data.length : Int) == 0) = true := by rw [Hal4.out hr]; rfl
            go_wp2
            go_ret
            exact ⟨by first | rfl | rw [hd0] | simp [hd0], hBz⟩
          have hda := Hal3.out hr
          have hG : ∀ k (h : k < all.length), ∃ (j : Nat) (h1 : k < zr.data.length) (h2 : j < s.words.length), all[k] = (j : Int) ∧ zr.data[k] = s.words[j] := by
            intro k h
            have hb := Hbi.out _ (List.getElem_mem h)
            have hw := Hw.out
            obtain ⟨hj, ej⟩ := getZ_gets (ws := s.words) hb.1 (by omega)
            refine ⟨(all[k]).toNat, by rw [hda, getAll_len]; exact h, hj, by omega, ?_⟩
            simp only [hda, getAll, List.getElem_map]
            exact ej
          have hlen : ((zr.data.length : Int) == (all.length : Int)) = true := by rw [hda, getAll_len]; simp
          have HG := Hid.intro hG
          clear hda hG hr Hal3 Hal4
          go_wp2
          go_loopw [17] (fun i wz => ∃ k : Nat, k ≤ all.length ∧ i = .int .i64 k ∧ Below wc.heap.size wc wz) (fun i _ => all.length - (intOf i).toNat)
          case atStart => exact ⟨0, Nat.zero_le _, rfl, Below.refl _ _⟩
          case round =>
            obtain ⟨k, hkl, rfl, hbk⟩ := hrel
            have hbw := hbn.trans (hbk.mono hbn.size)
            clear r0 r1 r2 r3 r4 r5 r6 o0 o1 o2
            obtain ⟨o0, o1, o2⟩ := cells3 ((hbw.block O hO10).trans BO10.out)
            by_cases hkt : k < all.length
            · obtain ⟨j, h1, h2, ea, ee⟩ := HG.out k hkt
              rcases HI10.out with hx | ⟨b0, f0, rfl, g0, hc0⟩
              · rw [hx] at hkt; simp at hkt
              rcases HO10.out.rsp.data with hx | ⟨b1, f1, rfl, g1, hc1⟩
              · rw [hx] at h1; simp at h1
              rcases HS10.out.words with hx | ⟨b2, f2, heq, g2, hc2⟩
              · rw [hx] at h2; simp at h2
              cases heq
              have u0 := (hbw.cell (p := ⟨b0, f0 + k, none⟩) g0).trans (hc0 k hkt)
              have u1 := (hbw.cell (p := ⟨b1, f1 + k, none⟩) g1).trans (hc1 k h1)
              have u2 := (hbw.cell (p := ⟨bw, ow + j, none⟩) g2).trans (hc2 j h2)
              rw [ea] at u0
              rw [ee] at u1
              obtain ⟨va, eva⟩ : ∃ v, v = s.words[j] := ⟨_, rfl⟩
              rw [← eva] at u1 u2
              obtain ⟨s0, s1⟩ := cells2 ((hbw.block S hS10).trans BS10.out)
              have HK := Hid.intro (show k + 1 ≤ all.length by omega)
              have hk0 : (0 : Int) ≤ (k : Int) := by omega
              have i0 : (k : Int) < (all.length : Int) := by omega
              have i1 : (k : Int) < (zr.data.length : Int) := by omega
              have j0 : (0 : Int) ≤ (j : Int) := by omega
              have j1 : (j : Int) < (s.words.length : Int) := by omega
              clear hc0 hc1 hc2 ea ee eva h1 h2 HG
              go_wp2_with fail
              go_quiet (fail)
              all_goals go_wp2
              all_goals go_roundw
              case rel => exact ⟨k + 1, HK.out, by go_num, by first | exact hbk.drew | exact ⟨hbk.os, hbk.tape, hbk.output, hbk.size, hbk.block⟩⟩
              case measure => have := HK.out; simp [intOf]; omega
            · have hk3 : ¬ (k : Int) < (all.length : Int) := by omega
              clear HG
              go_wp2
              go_ret
              exact ⟨by first | rfl | rw [hlen] | simp [hlen], hBz.trans (hbk.mono hBz.size)⟩

end Go.Proofs.Ytcjlmdjiddadfaa

/-
  Proved: what one asks is done, or not, at once. At every code (a row of bytes of any length) the law answers true and leaves its argument as it was. No condition.
-/
namespace Go.Proofs.Ytcjlmdjiddadfaa.fnAtmDo
open Go.ChangeShapes Go.WideShapes Go.ChangeAt Go.RowKit
set_option linter.unusedVariables false
set_option linter.unusedSimpArgs false

set_option maxRecDepth 100000 in
theorem lifted (hI : AtmDoC) (os : Os) (started : os.Started) (H : Type) (enc : TypeId × Value → H) :
    ReturnsInHanded {} Try.checked os 3 .any (Rows.fnAtmDoSpec.pre6 enc Try.prog Try.f3 Rows.fnAtmDoRow.domain false) (Rows.fnAtmDoSpec.post enc Try.prog Try.f3 false true false false) := by
  refine returnsInHanded_of_change (C := Try.checked) ownB started (by kernel_rfl) Try.func3
    (ChangeSpec.witness6 (enc := enc) (C := Try.checked) false ⟨#[], #[.slice none 0 0], []⟩ 8 (by kernel_rfl) (by kernel_rfl) (by kernel_rfl) (by kernel_rfl)) ?_
  intro W base args ds gs before hval0 hW hcnd _
  have hval : ∀ (j : Nat) t v, Try.f3.params[j]? = some t → args[j]? = some v → Value.okWide Try.prog W .any base t v := hval0
  have hW' := hW
  obtain ⟨p, q, hA0, hV, rfl, hfz, hnd⟩ := hW
  have hA : DataW.TrodAll enc Try.prog W 0 (fun _ => true) true Try.f3.params.toList args.toList ds p := hA0
  rw [Try.params3] at hA hval
  obtain ⟨v0, vs0, d0, ds0, p0, q0, hargs, rfl, rfl, h0, r0⟩ := trodAll_cons hA
  obtain ⟨rfl, rfl, rfl⟩ := trodAll_nil r0
  obtain rfl : args = #[v0] := by cases args; simp_all
  obtain ⟨rfl, rfl⟩ := trodVars_none hV
  obtain ⟨a0, len0, cap0, rfl⟩ := okWide_slice Try.underlying22 (hval 0 22 v0 rfl rfl)
  have k0 := h0
  have lt0 : ∀ x ∈ p0, x.block < W.heap.size := by obtain ⟨m, hm⟩ := k0; exact DataW.trod_lt m _ _ _ hm
  obtain ⟨hx, hc, hm⟩ := open_bytes h0
  clear hA0 hval0
  refine (walkC_FnAtmDo hI a0 len0 cap0 W hc hm hx).mono fun e W' ⟨he, bel⟩ => ?_
  subst he
  exact ⟨_, rfl, _, _, _, [], _, [], hW', trodAll_mk1 (shut_bool Try.underlying4 _), (trodAll_cons_mk (Below.trod laidOutC (by kernel_rfl) (of_decide_eq_true (by kernel_rfl)) k0 bel lt0) trodAll_mk0), rfl, bel.frame _, fun h => by cases h⟩

theorem over (hI : AtmDoC) : Rows.fnAtmDoRow.holds Try.pinned (OpenSpec.ofChange Rows.fnAtmDoSpec) :=
  OpenClaim.holds_of_wide 3 Try.f3 rfl rfl rfl rfl rfl rfl rfl ⟨rfl, rfl, rfl, rfl, rfl⟩ rfl rfl rfl rfl rfl (by kernel_rfl) Try.func3 (by kernel_rfl)
    (of_decide_eq_true (by kernel_rfl)) (by unfold Func.isWrapper; first | (rw [if_pos (by decide +kernel)]; kernel_rfl) | (rw [if_neg (by decide +kernel)]; exact ⟨rfl, rfl⟩))
    (fun os started H enc _ => lifted hI os started H enc)

theorem proved_of (hI : AtmDoC) : Rows.FnAtmDoSaid := over hI
end Go.Proofs.Ytcjlmdjiddadfaa.fnAtmDo

namespace Go.Proofs.Ytcjlmdjiddadfaa.fnAtmDo

theorem proved : Rows.FnAtmDoSaid := proved_of impl_AtmDo
end Go.Proofs.Ytcjlmdjiddadfaa.fnAtmDo
