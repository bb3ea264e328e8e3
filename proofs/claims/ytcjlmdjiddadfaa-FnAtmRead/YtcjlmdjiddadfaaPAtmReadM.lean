/-
  Proved: who reads behind a write reads what was written. At every code (a row of bytes of any length) the law answers true and leaves its argument as it was. No condition.
-/
import Derived.Test.YtcjlmdjiddadfaaProg
import Derived.Test.YtcjlmdjiddadfaaCrOkM
import Derived.Test.YtcjlmdjiddadfaaSpcH
import Derived.Test.YtcjlmdjiddadfaaBurstM
import Derived.Test.YtcjlmdjiddadfaaWrd
import Derived.BigQuiet
import Derived.Test.YtcjlmdjiddadfaaRows
import Derived.Test.YtcjlmdjiddadfaaLawB
import Derived.Test.YtcjlmdjiddadfaaImpKM
/-
  The law FnAtmRead, walked, by what AtmDo of the program answers.
-/
namespace Go.Proofs.Ytcjlmdjiddadfaa
open Go.RowKit
set_option linter.unusedSimpArgs false
set_option linter.unusedVariables false

theorem who_next {who : Int} (h0 : 0 ≤ who) (h1 : who ≤ 2) : inB ((who + 1).tmod 3) 0 2 = true := by
  have : who = 0 ∨ who = 1 ∨ who = 2 := by omega
  rcases this with rfl | rfl | rfl <;> decide

theorem read_ok {r : Req} (h : reqOkB r = true) : reqOkB ⟨1 - r.id, 1, r.addr, r.many, r.wrap, [], []⟩ = true := by
  obtain ⟨q1, q2, q3⟩ := req_parts h
  rcases q1 with q1 | q1 <;> simp [reqOkB, reqHeadB, reqOneB, writesB, reqNoneB, inB, q2, q1]
theorem read_at {ms : List Rng} {s : Stt} {who : Int} {r : Req} (h : atmOkB ms s who r = true) (hk : r.kind = 2) {k : Nat} (hl : k < (burst r.addr r.many r.wrap).length) :
    ∃ (j : Nat) (h1 : k < (getAll (putAll s.words (burst r.addr r.many r.wrap) r.data r.lanes) (burst r.addr r.many r.wrap)).length) (h2 : k < r.data.length) (h3 : k < r.lanes.length) (h4 : j < s.words.length), (burst r.addr r.many r.wrap)[k] = (j : Int) ∧ (getAll (putAll s.words (burst r.addr r.many r.wrap) r.data r.lanes) (burst r.addr r.many r.wrap))[k] = wrdPutZ s.words[j] r.data[k] r.lanes[k] := by
  obtain ⟨p1, p2, p3, p4, p5, p7⟩ := atmOk_parts h
  obtain ⟨q1, q2, q3⟩ := req_parts p7
  obtain ⟨d1, d2, d3, d4⟩ := reqOk_words p7 (.inl hk)
  have hln := burst_ln q2
  have hb := burst_in _ (List.getElem_mem hl)
  have hw := memOk_len p2
  have h2 : k < r.data.length := by omega
  have h3 : k < r.lanes.length := by omega
  have e := getAll_put (data := r.data) (lanes := r.lanes) p2 hl
  obtain ⟨hj, ej⟩ := getZ_gets (ws := s.words) hb.1 (by omega)
  refine ⟨(burst r.addr r.many r.wrap)[k].toNat, by rw [getAll_len]; exact hl, h2, h3, hj, by omega, ?_⟩
  simp only [List.getD_eq_getElem?_getD, List.getElem?_eq_getElem h2, List.getElem?_eq_getElem h3, List.getElem?_eq_getElem hl, List.getElem?_eq_getElem (show k < (getAll (putAll s.words (burst r.addr r.many r.wrap) r.data r.lanes) (burst r.addr r.many r.wrap)).length by rw [getAll_len]; exact hl), Option.getD_some] at e
  rw [e, ej]

set_option maxRecDepth 100000 in
set_option maxHeartbeats 8000000 in
theorem walkC_FnAtmRead (hI : AtmDoC) (a : Option Addr) (len cap : Nat) (w : World) (hc : len ≤ cap) (hm : cap ≤ 9223372036854775807) (h : Bytes w w.heap.size a len) :
    Calls Try.prog 9 #[.slice a len cap] w fun e w' => e = .returned (.bool true) ∧ Below w.heap.size w w' := by
  by_cases hl : 1048576 < len
  · have hI1 : (1048576 : Int) < (len : Int) := by omega
    clear h hI
    go_enter Try.func9, Try.ntmps9
    go_wp2
    go_ret
    exact ⟨rfl, Below.refl _ _⟩
  have hI1 : ¬ (1048576 : Int) < (len : Int) := by omega
  have HB := Hid.intro h
  have HC := Hid.intro hI
  clear h hI
  go_enter Try.func9, Try.ntmps9
  go_wp2_with fail
  refine (drawAtmDo_any a len cap w hc hm HB.out).mono ?_
  rintro e w1 ⟨b, c, ms, s, bw, ow, cw, bh, oh, ch, who, r, pd, cd, pl, cl, rfl, hM, xc, xm, x1, x7, hS, y1, y2, hR, z1, z2, hb1⟩
  obtain ⟨zs, zr, hZ⟩ : ∃ zs zr, atmZ ms s who r = (zs, zr) := ⟨_, _, rfl⟩
  have HZ := Hid.intro hZ
  have HM := Hid.intro hM
  have HS := Hid.intro hS
  have HR := Hid.intro hR
  clear hM hS hR hZ
  unfold stV reqV
  go_wp2_with fail
  refine (atmF_at HC.out HZ.out (HM.out.below (below_two _ _ _)) xc xm (HS.out.below (below_two _ _ _)) (HR.out.below (below_two _ _ _))).mono ?_
  rintro e w2 ⟨qw, dw, qh, dh, qx, dx, rfl, hO, hb2⟩
  have hs1 := hb1.size
  have hs2 := hb2.size
  simp only [World.size_alloc] at hs2
  have bS : w2.heap[w1.heap.size]? = some (.cells #[.slice (some ⟨bw, ow, none⟩) s.words.length cw, .slice (some ⟨bh, oh, none⟩) s.holds.length ch] 28 (0, 0)) := (hb2.block _ (by simp; omega)).trans (two_at0 _ _ _)
  have bQ : w2.heap[w1.heap.size + 1]? = some (.cells #[.int .i64 r.id, .int .i64 r.kind, .int .i64 r.addr, .int .i64 r.many, .bool r.wrap, .slice pd r.data.length cd, .slice pl r.lanes.length cl] 30 (0, 0)) := (hb2.block _ (by simp)).trans (two_at1 _ _ _)
  have HM2 := Hid.intro ((HM.out.below (below_two _ _ _)).below hb2)
  have HS2 := Hid.intro ((HS.out.below (below_two _ _ _)).below hb2)
  have HR2 := Hid.intro ((HR.out.below (below_two _ _ _)).below hb2)
  have HO2 := Hid.intro hO
  have hB2 := (hb1.trans ((below_two w1 _ _).mono hb1.size)).trans (hb2.mono (by simp; omega))
  obtain ⟨S, eS⟩ : ∃ S, S = w1.heap.size := ⟨_, rfl⟩
  obtain ⟨Q, eQ⟩ : ∃ Q, Q = w1.heap.size + 1 := ⟨_, rfl⟩
  rw [← eQ] at bQ ⊢
  rw [← eS] at bS ⊢
  have hSl : S < w2.heap.size := by omega
  have hQl : Q < w2.heap.size := by omega
  have hnSQ : S ≠ Q := by omega
  clear hb1 hb2 hO HM HS HR eS eQ hs2 hs1
  obtain ⟨s0, s1⟩ := cells2 bS
  obtain ⟨r0, r1, r2, r3, r4, r5, r6⟩ := cells7 bQ
  have BS := Hid.intro bS
  have BQ := Hid.intro bQ
  clear bS bQ
  unfold stV rspV
  go_wp2_with fail
  refine (atmF_at spec_AtmDo HZ.out (HM2.out.below (below_two _ _ _)) xc xm (HS2.out.below (below_two _ _ _)) (HR2.out.below (below_two _ _ _))).mono ?_
  rintro e w3 ⟨kw, mw, kh, mh, kx, mx, rfl, hO, hb3⟩
  have hs3 := hb3.size
  simp only [World.size_alloc] at hs3
  have bX : w3.heap[w2.heap.size]? = some (.cells #[.slice qw zs.words.length dw, .slice qh zs.holds.length dh] 28 (0, 0)) := (hb3.block _ (by simp; omega)).trans (two_at0 _ _ _)
  have bO : w3.heap[w2.heap.size + 1]? = some (.cells #[.int .i64 zr.id, .int .i64 zr.code, .slice qx zr.data.length dx] 34 (0, 0)) := (hb3.block _ (by simp)).trans (two_at1 _ _ _)
  have hg3 : Below w2.heap.size w2 w3 := (below_two w2 _ _).trans (hb3.mono (by simp; omega))
  have bS := (hg3.block S hSl).trans BS.out
  have bQ := (hg3.block Q hQl).trans BQ.out
  have HM3 := Hid.intro (HM2.out.below hg3)
  have HS3 := Hid.intro (HS2.out.below hg3)
  have HR3 := Hid.intro (HR2.out.below hg3)
  have HO3 := Hid.intro (HO2.out.below hg3)
  have HK3 := Hid.intro hO
  have hB3 := hB2.trans (hg3.mono hB2.size)
  obtain ⟨X, eX⟩ : ∃ X, X = w2.heap.size := ⟨_, rfl⟩
  obtain ⟨O, eO⟩ : ∃ O, O = w2.heap.size + 1 := ⟨_, rfl⟩
  rw [← eO] at bO ⊢
  rw [← eX] at bX ⊢
  have hXl : X < w3.heap.size := by omega
  have hOl : O < w3.heap.size := by omega
  have hS3 : S < w3.heap.size := by omega
  have hQ3 : Q < w3.heap.size := by omega
  have hnSX : S ≠ X := by omega
  have hnQX : Q ≠ X := by omega
  have hnSO : S ≠ O := by omega
  have hnQO : Q ≠ O := by omega
  have hnXO : X ≠ O := by omega
  clear hb3 hg3 hO HM2 HS2 HR2 HO2 BS BQ s0 s1 r0 r1 r2 r3 r4 r5 r6 hB2 hSl hQl eX eO hs3
  obtain ⟨o0, o1, o2⟩ := cells3 bO
  have BS := Hid.intro bS
  have BQ := Hid.intro bQ
  have BX := Hid.intro bX
  have BO := Hid.intro bO
  clear bS bQ bX bO
  unfold stV rspV
  go_wp2_with fail
  refine (crRsp_same zr qx kx dx mx _ (HO3.out.rsp.below (below_two _ _ _)) (HK3.out.rsp.below (below_two _ _ _))).mono ?_
  rintro e w4 ⟨rfl, hb4⟩
  have hg4 : Below w3.heap.size w3 w4 := (below_two w3 _ _).trans (hb4.mono (by simp; omega))
  have hs4 := hg4.size
  have bS := (hg4.block S hS3).trans BS.out
  have bQ := (hg4.block Q hQ3).trans BQ.out
  have bX := (hg4.block X hXl).trans BX.out
  have bO := (hg4.block O hOl).trans BO.out
  have HM4 := Hid.intro (HM3.out.below hg4)
  have HS4 := Hid.intro (HS3.out.below hg4)
  have HR4 := Hid.intro (HR3.out.below hg4)
  have HO4 := Hid.intro (HO3.out.below hg4)
  have hB4 := hB3.trans (hg4.mono hB3.size)
  have hS4 : S < w4.heap.size := by omega
  have hQ4 : Q < w4.heap.size := by omega
  have hX4 : X < w4.heap.size := by omega
  have hO4 : O < w4.heap.size := by omega
  clear hb4 hg4 HM3 HS3 HR3 HO3 HK3 BS BQ BX BO o0 o1 o2 hB3 hXl hOl hS3 hQ3 hs4
  obtain ⟨s0, s1⟩ := cells2 bS
  obtain ⟨r0, r1, r2, r3, r4, r5, r6⟩ := cells7 bQ
  obtain ⟨x0, x1, x2⟩ := (⟨(cells2 bX).1, (cells2 bX).2, trivial⟩ : _ ∧ _ ∧ True)
  obtain ⟨o0, o1, o2⟩ := cells3 bO
  have BS := Hid.intro bS
  have BQ := Hid.intro bQ
  have BX := Hid.intro bX
  have BO := Hid.intro bO
  clear bS bQ bX bO x2
  by_cases c2 : r.kind = 2
  case neg =>
    have n2 : (r.kind == 2) = false := by simpa using c2
    go_wp2_with (go_at_call 26; refine (crOk_any _).mono ?_; rintro e w' ⟨rfl, rfl⟩)
    go_ret
    exact ⟨rfl, hB4⟩
  have n2 : (r.kind == 2) = true := by simpa using c2
  by_cases c1 : zr.code = 1
  case neg =>
    have n1 : (zr.code == 1) = false := by simpa using c1
    go_wp2_with (go_at_call 26; refine (crOk_any _).mono ?_; rintro e w' ⟨rfl, rfl⟩)
    go_ret
    exact ⟨rfl, hB4⟩
  have n1 : (zr.code == 1) = true := by simpa using c1
  obtain ⟨hok, hdo⟩ := atmZ_code HZ.out (by omega)
  obtain ⟨a1, a2, a3, a4⟩ := atmOk_and hok
  obtain ⟨p1, p2, p3, p4, ⟨p5, p6⟩, p7⟩ := atmOk_parts hok
  obtain ⟨q1, q2, q3⟩ := req_parts p7
  have hnz : ¬ wholeZ ms (burst r.addr r.many r.wrap) < 0 := by
    intro hz
    rw [atmDo_none hz] at hdo
    injection hdo with e1 e2
    rw [← e2] at c1
    simp at c1
  have hnd : ¬ (writesB r && onlyAt ms (wholeZ ms (burst r.addr r.many r.wrap))) = true := by
    intro hd
    rw [atmDo_deny hnz hd] at hdo
    injection hdo with e1 e2
    rw [← e2] at c1
    simp at c1
  have hd2 := hdo
  rw [atmDo_write hnz hnd c2] at hd2
  injection hd2 with e1 e2
  have hV0 := fun k hl => read_at hok c2 (k := k) hl
  have hA0 := impl_AdrBurst r.addr r.many r.wrap
  have ew : zs.words = putAll s.words (burst r.addr r.many r.wrap) r.data r.lanes := by rw [← e1]
  rw [← ew] at hV0
  have qok := read_ok a4
  have hw := who_next p5 p6
  obtain ⟨who', hwho⟩ : ∃ k, k = (who + 1).tmod 3 := ⟨_, rfl⟩
  rw [← hwho] at hw
  obtain ⟨id', hid⟩ : ∃ k, k = 1 - r.id := ⟨_, rfl⟩
  rw [← hid] at qok
  have hZ2 : atmZ ms zs who' ⟨id', 1, r.addr, r.many, r.wrap, [], []⟩ = (zs, ⟨id', 1, getAll zs.words (burst r.addr r.many r.wrap)⟩) := by
    have h1 : atmOkB ms zs who' ⟨id', 1, r.addr, r.many, r.wrap, [], []⟩ = true := by
      have := atmOk_next (who' := who') (q := ⟨id', 1, r.addr, r.many, r.wrap, [], []⟩) hok hw qok
      rw [hdo] at this
      exact this
    rw [atmZ_may h1, atmDo_read (r := ⟨id', 1, r.addr, r.many, r.wrap, [], []⟩) hnz rfl]
  obtain ⟨all, eall⟩ : ∃ l, l = burst r.addr r.many r.wrap := ⟨_, rfl⟩
  rw [← eall] at hV0 hA0 hZ2
  obtain ⟨ad, ead⟩ : ∃ l, l = getAll zs.words all := ⟨_, rfl⟩
  rw [← ead] at hV0 hZ2
  have v1 : wrap64 (1 - r.id) = id' := by rw [hid]; unfold wrap64; omega
  have v2 : wrap64 (who + 1) = who + 1 := by unfold wrap64; omega
  have v3 : IntKind.i64.wrap (1 - r.id) = id' := by rw [hid]; exact wrapI (by omega) (by omega)
  have v4 : IntKind.i64.wrap (who + 1) = who + 1 := wrapI (by omega) (by omega)
  have hal : all.length ≤ 4 := by rw [eall]; exact burst_le _ _ _
  have HV := Hid.intro hV0
  have HA := Hid.intro hA0
  have HZ2 := Hid.intro hZ2
  have Hho := Hid.intro hwho
  clear hok hdo a1 a2 a3 a4 p1 p2 p3 p4 p5 p6 p7 q1 q2 q3 hnz hnd e1 e2 hV0 hA0 ew qok hw hZ2 eall ead hid hwho n1 n2
  go_wp2_with fail
  first | rw [v1, v2] | rw [v3, v4] | skip
  rw [← Hho.out]
  clear v1 v2 v3 v4 Hho
  refine (atmF_at HC.out HZ2.out (HM4.out.below (below_nw _ _)) xc xm (HO4.out.st.below (below_nw _ _)) (r := ⟨id', 1, r.addr, r.many, r.wrap, [], []⟩) (pd := none) (pl := none) (cd := 0) (cl := 0) ⟨.inl rfl, .inl rfl, by simp, by simp, by simp, by simp⟩).mono ?_
  rintro e w5 ⟨kw, mw, kh, mh, kx, mx, rfl, hO, hb5⟩
  have hg5 : Below w4.heap.size w4 w5 := Below.trans (below_nw w4 _) (hb5.mono (by simp))
  have hs5 := hg5.size
  have bS := (hg5.block S hS4).trans BS.out
  have bQ := (hg5.block Q hQ4).trans BQ.out
  have bX := (hg5.block X hX4).trans BX.out
  have HS5 := Hid.intro (HS4.out.below hg5)
  have HR5 := Hid.intro (HR4.out.below hg5)
  have HO5 := Hid.intro (HO4.out.st.below hg5)
  have HK5 := Hid.intro hO
  have hB5 := hB4.trans (hg5.mono hB4.size)
  have hS5 : S < w5.heap.size := by omega
  have hQ5 : Q < w5.heap.size := by omega
  have hX5 : X < w5.heap.size := by omega
  clear hb5 hg5 hO HM4 HS4 HR4 HO4 BS BQ BX BO s0 s1 r0 r1 r2 r3 r4 r5 r6 x0 x1 o0 o1 o2 hB4 hS4 hQ4 hX4 hO4 hs5 HC HZ2 HZ
  obtain ⟨r0, r1, r2, r3, r4, r5, r6⟩ := cells7 bQ
  have BS := Hid.intro bS
  have BQ := Hid.intro bQ
  have BX := Hid.intro bX
  clear bS bQ bX
  unfold stV rspV
  go_wp2_with fail
  refine (HA.out _).mono ?_
  rintro e w6 ⟨p, cp, rfl, hi6, _, hc6, hm6, hb6, _⟩
  have hb6s := hb6.size
  simp only [World.size_alloc] at hb6s
  have bY : w6.heap[w5.heap.size]? = some (.cells #[.slice kw zs.words.length mw, .slice kh zs.holds.length mh] 28 (0, 0)) := (hb6.block _ (by simp; omega)).trans (two_at0 _ _ _)
  have bT : w6.heap[w5.heap.size + 1]? = some (.cells #[.int .i64 id', .int .i64 1, .slice kx ad.length mx] 34 (0, 0)) := (hb6.block _ (by simp)).trans (two_at1 _ _ _)
  have hg6 : Below w5.heap.size w5 w6 := (below_two w5 _ _).trans (hb6.mono (by simp; omega))
  have bS := (hg6.block S hS5).trans BS.out
  have bQ := (hg6.block Q hQ5).trans BQ.out
  have bX := (hg6.block X hX5).trans BX.out
  have HS6 := Hid.intro (HS5.out.words.below hg6)
  have HD6 := Hid.intro (HR5.out.data.below hg6)
  have HL6 := Hid.intro (HR5.out.lanes.below hg6)
  have HO6 := Hid.intro (HO5.out.below hg6)
  have HK6 := Hid.intro (HK5.out.st.below hg6)
  have HX6 := Hid.intro (HK5.out.rsp.data.below hg6)
  have HI6 := Hid.intro hi6
  have hB6 := hB5.trans (hg6.mono hB5.size)
  have hSl : S < w6.heap.size := by omega
  have hQl : Q < w6.heap.size := by omega
  have hXl : X < w6.heap.size := by omega
  obtain ⟨Y, eY⟩ : ∃ Y, Y = w5.heap.size := ⟨_, rfl⟩
  obtain ⟨U, eU⟩ : ∃ U, U = w5.heap.size + 1 := ⟨_, rfl⟩
  rw [← eU] at bT ⊢
  rw [← eY] at bY ⊢
  have hYl : Y < w6.heap.size := by omega
  have hUl : U < w6.heap.size := by omega
  clear hi6 hb6 hg6 hb6s HS5 HR5 HO5 HK5 hB5 hS5 hQ5 hX5 eY eU r0 r1 r2 r3 r4 r5 r6 BS BQ BX HA
  have BS := Hid.intro bS
  have BQ := Hid.intro bQ
  have BX := Hid.intro bX
  have BY := Hid.intro bY
  have BT := Hid.intro bT
  clear bS bQ bX bY bT
  go_wp2
  go_loopw [15] (fun i wr => ∃ k : Nat, k ≤ all.length ∧ i = .int .i64 k ∧ Below w6.heap.size w6 wr) (fun i _ => all.length - (intOf i).toNat)
  case atStart => exact ⟨0, Nat.zero_le _, rfl, Below.refl _ _⟩
  case round =>
    obtain ⟨k, hkl, rfl, hbl⟩ := hrel
    by_cases hlt : k < all.length
    · obtain ⟨j, h1, h2, h3, h4, ea, ee⟩ := HV.out k hlt
      rcases HI6.out with hx | ⟨b0, f0, rfl, g0, hc0⟩
      · rw [hx] at hlt; simp at hlt
      rcases HX6.out with hx | ⟨b1, f1, rfl, g1, hc1⟩
      · have hx' : ad = [] := hx
        rw [hx'] at h1; simp at h1
      rcases HS6.out with hx | ⟨b2, f2, eq2, g2, hc2⟩
      · rw [hx] at h4; simp at h4
      rcases HD6.out with hx | ⟨b3, f3, rfl, g3, hc3⟩
      · rw [hx] at h2; simp at h2
      rcases HL6.out with hx | ⟨b4, f4, rfl, g4, hc4⟩
      · rw [hx] at h3; simp at h3
      cases eq2
      have u0 := (hbl.cell (p := ⟨b0, f0 + k, none⟩) g0).trans (hc0 k hlt)
      have u1 := (hbl.cell (p := ⟨b1, f1 + k, none⟩) g1).trans (hc1 k h1)
      have u2 := (hbl.cell (p := ⟨bw, ow + j, none⟩) g2).trans (hc2 j h4)
      have u3 := (hbl.cell (p := ⟨b3, f3 + k, none⟩) g3).trans (hc3 k h2)
      have u4 := (hbl.cell (p := ⟨b4, f4 + k, none⟩) g4).trans (hc4 k h3)
      rw [ea] at u0
      change wr.cell? _ = some (.int .i64 ad[k]) at u1
      rw [ee] at u1
      obtain ⟨va, eva⟩ : ∃ v, v = s.words[j] := ⟨_, rfl⟩
      obtain ⟨vb, evb⟩ : ∃ v, v = r.data[k] := ⟨_, rfl⟩
      obtain ⟨vc, evc⟩ : ∃ v, v = r.lanes[k] := ⟨_, rfl⟩
      rw [← eva] at u1 u2
      rw [← evb] at u1 u3
      rw [← evc] at u1 u4
      have HP := Hid.intro (fun W => impl_WrdPut va vb vc W)
      obtain ⟨vz, evz⟩ : ∃ v, v = wrdPutZ va vb vc := ⟨_, rfl⟩
      rw [← evz] at u1 HP
      obtain ⟨s0, s1⟩ := cells2 ((hbl.block S hSl).trans BS.out)
      obtain ⟨r0, r1, r2, r3, r4, r5, r6⟩ := cells7 ((hbl.block Q hQl).trans BQ.out)
      obtain ⟨t0, t1, t2⟩ := cells3 ((hbl.block U hUl).trans BT.out)
      have HK := Hid.intro (show k + 1 ≤ all.length by omega)
      have hk0 : (0 : Int) ≤ (k : Int) := by omega
      have i0 : (k : Int) < (all.length : Int) := by omega
      have i1 : (k : Int) < (ad.length : Int) := by have : k < ad.length := h1; omega
      have i2 : (k : Int) < (r.data.length : Int) := by omega
      have i3 : (k : Int) < (r.lanes.length : Int) := by omega
      have i4 : (j : Int) < (s.words.length : Int) := by omega
      have j0 : (0 : Int) ≤ (j : Int) := by omega
      clear hc0 hc1 hc2 hc3 hc4 HV HS6 HD6 HL6 HX6 HI6 BS BQ BT BX BY ea ee eva evb evc evz h1 h2 h3 h4 HO6 HK6
      go_wp2_with fail
      go_quiet ((go_at_call 30; exact Calls.quiet_of_same (HP.out _)))
      all_goals go_wp2
      all_goals go_roundw
      case rel => exact ⟨k + 1, HK.out, by go_num, by first | exact hbl.drew | exact ⟨hbl.os, hbl.tape, hbl.output, hbl.size, hbl.block⟩⟩
      case measure => have := HK.out; simp [intOf]; omega
    · have hk3 : ¬ (k : Int) < (all.length : Int) := by omega
      obtain ⟨t0, t1, t2⟩ := cells3 ((hbl.block U hUl).trans BT.out)
      obtain ⟨y0, y1⟩ := cells2 ((hbl.block Y hYl).trans BY.out)
      obtain ⟨x0, x1⟩ := cells2 ((hbl.block X hXl).trans BX.out)
      have HO7 := Hid.intro (HO6.out.below hbl)
      have HK7 := Hid.intro (HK6.out.below hbl)
      have hB7 := hB6.trans (hbl.mono hB6.size)
      clear HV HS6 HD6 HL6 HX6 HI6 BS BQ BT BX BY HO6 HK6 hB6
      go_wp2_with fail
      refine (crAtm_same zs kw qw kh qh mw dw mh dh _ HK7.out HO7.out).mono ?_
      rintro e w8 ⟨rfl, hb8⟩
      have hB8 := hB7.trans (hb8.mono hB7.size)
      clear hb8 hB7
      go_wp2
      go_ret
      exact ⟨rfl, hB8⟩

end Go.Proofs.Ytcjlmdjiddadfaa

/-
  Proved: who reads behind a write reads what was written. At every code (a row of bytes of any length) the law answers true and leaves its argument as it was. No condition.
-/
namespace Go.Proofs.Ytcjlmdjiddadfaa.fnAtmRead
open Go.ChangeShapes Go.WideShapes Go.ChangeAt Go.RowKit
set_option linter.unusedVariables false
set_option linter.unusedSimpArgs false

set_option maxRecDepth 100000 in
theorem lifted (hI : AtmDoC) (os : Os) (started : os.Started) (H : Type) (enc : TypeId × Value → H) :
    ReturnsInHanded {} Try.checked os 9 .any (Rows.fnAtmReadSpec.pre6 enc Try.prog Try.f9 Rows.fnAtmReadRow.domain false) (Rows.fnAtmReadSpec.post enc Try.prog Try.f9 false true false false) := by
  refine returnsInHanded_of_change (C := Try.checked) ownB started (by kernel_rfl) Try.func9
    (ChangeSpec.witness6 (enc := enc) (C := Try.checked) false ⟨#[], #[.slice none 0 0], []⟩ 8 (by kernel_rfl) (by kernel_rfl) (by kernel_rfl) (by kernel_rfl)) ?_
  intro W base args ds gs before hval0 hW hcnd _
  have hval : ∀ (j : Nat) t v, Try.f9.params[j]? = some t → args[j]? = some v → Value.okWide Try.prog W .any base t v := hval0
  have hW' := hW
  obtain ⟨p, q, hA0, hV, rfl, hfz, hnd⟩ := hW
  have hA : DataW.TrodAll enc Try.prog W 0 (fun _ => true) true Try.f9.params.toList args.toList ds p := hA0
  rw [Try.params9] at hA hval
  obtain ⟨v0, vs0, d0, ds0, p0, q0, hargs, rfl, rfl, h0, r0⟩ := trodAll_cons hA
  obtain ⟨rfl, rfl, rfl⟩ := trodAll_nil r0
  obtain rfl : args = #[v0] := by cases args; simp_all
  obtain ⟨rfl, rfl⟩ := trodVars_none hV
  obtain ⟨a0, len0, cap0, rfl⟩ := okWide_slice Try.underlying22 (hval 0 22 v0 rfl rfl)
  have k0 := h0
  have lt0 : ∀ x ∈ p0, x.block < W.heap.size := by obtain ⟨m, hm⟩ := k0; exact DataW.trod_lt m _ _ _ hm
  obtain ⟨hx, hc, hm⟩ := open_bytes h0
  clear hA0 hval0
  refine (walkC_FnAtmRead hI a0 len0 cap0 W hc hm hx).mono fun e W' ⟨he, bel⟩ => ?_
  subst he
  exact ⟨_, rfl, _, _, _, [], _, [], hW', trodAll_mk1 (shut_bool Try.underlying4 _), (trodAll_cons_mk (Below.trod laidOutC (by kernel_rfl) (of_decide_eq_true (by kernel_rfl)) k0 bel lt0) trodAll_mk0), rfl, bel.frame _, fun h => by cases h⟩

theorem over (hI : AtmDoC) : Rows.fnAtmReadRow.holds Try.pinned (OpenSpec.ofChange Rows.fnAtmReadSpec) :=
  OpenClaim.holds_of_wide 9 Try.f9 rfl rfl rfl rfl rfl rfl rfl ⟨rfl, rfl, rfl, rfl, rfl⟩ rfl rfl rfl rfl rfl (by kernel_rfl) Try.func9 (by kernel_rfl)
    (of_decide_eq_true (by kernel_rfl)) (by unfold Func.isWrapper; first | (rw [if_pos (by decide +kernel)]; kernel_rfl) | (rw [if_neg (by decide +kernel)]; exact ⟨rfl, rfl⟩))
    (fun os started H enc _ => lifted hI os started H enc)

theorem proved_of (hI : AtmDoC) : Rows.FnAtmReadSaid := over hI
end Go.Proofs.Ytcjlmdjiddadfaa.fnAtmRead

namespace Go.Proofs.Ytcjlmdjiddadfaa.fnAtmRead

theorem proved : Rows.FnAtmReadSaid := proved_of impl_AtmDo
end Go.Proofs.Ytcjlmdjiddadfaa.fnAtmRead
