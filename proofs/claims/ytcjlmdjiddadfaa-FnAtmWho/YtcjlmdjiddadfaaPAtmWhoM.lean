/-
  Proved: FnAtmWho.
-/
import Derived.Test.YtcjlmdjiddadfaaProg
import Derived.Test.YtcjlmdjiddadfaaCrOkM
import Derived.Test.YtcjlmdjiddadfaaSpcH
import Derived.Test.YtcjlmdjiddadfaaRows
import Derived.Test.YtcjlmdjiddadfaaLawB
import Derived.Test.YtcjlmdjiddadfaaImpKM
/-
  The law FnAtmWho, walked, by what AtmDo of the program answers.
-/
namespace Go.Proofs.Ytcjlmdjiddadfaa
open Go.RowKit
set_option linter.unusedSimpArgs false
set_option linter.unusedVariables false

theorem atm_id {r : Req} (h : reqOkB r = true) : reqOkB { r with id := 1 - r.id } = true := by
  have hp := (req_parts h).1
  have e : inB (1 - r.id) 0 1 = inB r.id 0 1 := by
    rw [Bool.eq_iff_iff]; simp [inB]; omega
  have e2 : reqOkB { r with id := 1 - r.id } = reqOkB r := by
    unfold reqOkB reqHeadB
    simp only [e]
    rfl
  rw [e2, h]
theorem who_next {who : Int} (h0 : 0 ≤ who) (h1 : who ≤ 2) : inB ((who + 1).tmod 3) 0 2 = true := by
  have : who = 0 ∨ who = 1 ∨ who = 2 := by omega
  rcases this with rfl | rfl | rfl <;> decide

set_option maxRecDepth 100000 in
set_option maxHeartbeats 8000000 in
theorem walkC_FnAtmWho (hI : AtmDoC) (a : Option Addr) (len cap : Nat) (w : World) (hc : len ≤ cap) (hm : cap ≤ 9223372036854775807) (h : Bytes w w.heap.size a len) :
    Calls Try.prog 13 #[.slice a len cap] w fun e w' => e = .returned (.bool true) ∧ Below w.heap.size w w' := by
  by_cases hl : 1048576 < len
  · have hI1 : (1048576 : Int) < (len : Int) := by omega
    clear h hI
    go_enter Try.func13, Try.ntmps13
    go_wp2
    go_ret
    exact ⟨rfl, Below.refl _ _⟩
  have hI1 : ¬ (1048576 : Int) < (len : Int) := by omega
  have HB := Hid.intro h
  have HC := Hid.intro hI
  clear h hI
  go_enter Try.func13, Try.ntmps13
  go_wp2_with fail
  refine (drawAtmDo_any a len cap w hc hm HB.out).mono ?_
  rintro e w1 ⟨b, c, ms, s, bw, ow, cw, bh, oh, ch, who, r, pd, cd, pl, cl, rfl, hM, xc, xm, x1, x7, hS, y1, y2, hR, z1, z2, hb1⟩
  obtain ⟨zs, zr, hZ⟩ : ∃ zs zr, atmZ ms s who r = (zs, zr) := ⟨_, _, rfl⟩
  have HZ := Hid.intro hZ
  have HM := Hid.intro hM
  have HS := Hid.intro hS
  have HR := Hid.intro hR
  clear hM hS hR hZ
  unfold stV reqV
  go_wp2_with fail
  refine (atmF_at HC.out HZ.out (HM.out.below (below_two _ _ _)) xc xm (HS.out.below (below_two _ _ _)) (HR.out.below (below_two _ _ _))).mono ?_
  rintro e w2 ⟨qw, dw, qh, dh, qx, dx, rfl, hO, hb2⟩
  have hs1 := hb1.size
  have hs2 := hb2.size
  simp only [World.size_alloc] at hs2
  have bS : w2.heap[w1.heap.size]? = some (.cells #[.slice (some ⟨bw, ow, none⟩) s.words.length cw, .slice (some ⟨bh, oh, none⟩) s.holds.length ch] 28 (0, 0)) := (hb2.block _ (by simp; omega)).trans (two_at0 _ _ _)
  have bQ : w2.heap[w1.heap.size + 1]? = some (.cells #[.int .i64 r.id, .int .i64 r.kind, .int .i64 r.addr, .int .i64 r.many, .bool r.wrap, .slice pd r.data.length cd, .slice pl r.lanes.length cl] 30 (0, 0)) := (hb2.block _ (by simp)).trans (two_at1 _ _ _)
  have HM2 := Hid.intro ((HM.out.below (below_two _ _ _)).below hb2)
  have HS2 := Hid.intro ((HS.out.below (below_two _ _ _)).below hb2)
  have HR2 := Hid.intro ((HR.out.below (below_two _ _ _)).below hb2)
  have HO2 := Hid.intro hO
  have hB2 := (hb1.trans ((below_two w1 _ _).mono hb1.size)).trans (hb2.mono (by simp; omega))
  obtain ⟨S, eS⟩ : ∃ S, S = w1.heap.size := ⟨_, rfl⟩
  obtain ⟨Q, eQ⟩ : ∃ Q, Q = w1.heap.size + 1 := ⟨_, rfl⟩
  rw [← eQ] at bQ ⊢
  rw [← eS] at bS ⊢
  have hSl : S < w2.heap.size := by omega
  have hQl : Q < w2.heap.size := by omega
  have hnSQ : S ≠ Q := by omega
  clear hb1 hb2 hO HM HS HR eS eQ hs2 hs1
  obtain ⟨s0, s1⟩ := cells2 bS
  obtain ⟨r0, r1, r2, r3, r4, r5, r6⟩ := cells7 bQ
  have BS := Hid.intro bS
  have BQ := Hid.intro bQ
  clear bS bQ
  unfold stV rspV
  go_wp2_with fail
  refine (atmF_at spec_AtmDo HZ.out (HM2.out.below (below_two _ _ _)) xc xm (HS2.out.below (below_two _ _ _)) (HR2.out.below (below_two _ _ _))).mono ?_
  rintro e w3 ⟨kw, mw, kh, mh, kx, mx, rfl, hO, hb3⟩
  have hs3 := hb3.size
  simp only [World.size_alloc] at hs3
  have bX : w3.heap[w2.heap.size]? = some (.cells #[.slice qw zs.words.length dw, .slice qh zs.holds.length dh] 28 (0, 0)) := (hb3.block _ (by simp; omega)).trans (two_at0 _ _ _)
  have bO : w3.heap[w2.heap.size + 1]? = some (.cells #[.int .i64 zr.id, .int .i64 zr.code, .slice qx zr.data.length dx] 34 (0, 0)) := (hb3.block _ (by simp)).trans (two_at1 _ _ _)
  have hg3 : Below w2.heap.size w2 w3 := (below_two w2 _ _).trans (hb3.mono (by simp; omega))
  have bS := (hg3.block S hSl).trans BS.out
  have bQ := (hg3.block Q hQl).trans BQ.out
  have HM3 := Hid.intro (HM2.out.below hg3)
  have HS3 := Hid.intro (HS2.out.below hg3)
  have HR3 := Hid.intro (HR2.out.below hg3)
  have HO3 := Hid.intro (HO2.out.below hg3)
  have HK3 := Hid.intro hO
  have hB3 := hB2.trans (hg3.mono hB2.size)
  obtain ⟨X, eX⟩ : ∃ X, X = w2.heap.size := ⟨_, rfl⟩
  obtain ⟨O, eO⟩ : ∃ O, O = w2.heap.size + 1 := ⟨_, rfl⟩
  rw [← eO] at bO ⊢
  rw [← eX] at bX ⊢
  have hXl : X < w3.heap.size := by omega
  have hOl : O < w3.heap.size := by omega
  have hS3 : S < w3.heap.size := by omega
  have hQ3 : Q < w3.heap.size := by omega
  have hnSX : S ≠ X := by omega
  have hnQX : Q ≠ X := by omega
  have hnSO : S ≠ O := by omega
  have hnQO : Q ≠ O := by omega
  have hnXO : X ≠ O := by omega
  clear hb3 hg3 hO HM2 HS2 HR2 HO2 BS BQ s0 s1 r0 r1 r2 r3 r4 r5 r6 hB2 hSl hQl eX eO hs3
  obtain ⟨o0, o1, o2⟩ := cells3 bO
  have BS := Hid.intro bS
  have BQ := Hid.intro bQ
  have BX := Hid.intro bX
  have BO := Hid.intro bO
  clear bS bQ bX bO
  unfold stV rspV
  go_wp2_with fail
  refine (crRsp_same zr qx kx dx mx _ (HO3.out.rsp.below (below_two _ _ _)) (HK3.out.rsp.below (below_two _ _ _))).mono ?_
  rintro e w4 ⟨rfl, hb4⟩
  have hg4 : Below w3.heap.size w3 w4 := (below_two w3 _ _).trans (hb4.mono (by simp; omega))
  have hs4 := hg4.size
  have bS := (hg4.block S hS3).trans BS.out
  have bQ := (hg4.block Q hQ3).trans BQ.out
  have bX := (hg4.block X hXl).trans BX.out
  have bO := (hg4.block O hOl).trans BO.out
  have HM4 := Hid.intro (HM3.out.below hg4)
  have HS4 := Hid.intro (HS3.out.below hg4)
  have HR4 := Hid.intro (HR3.out.below hg4)
  have HO4 := Hid.intro (HO3.out.below hg4)
  have hB4 := hB3.trans (hg4.mono hB3.size)
  have hS4 : S < w4.heap.size := by omega
  have hQ4 : Q < w4.heap.size := by omega
  have hX4 : X < w4.heap.size := by omega
  have hO4 : O < w4.heap.size := by omega
  clear hb4 hg4 HM3 HS3 HR3 HO3 HK3 BS BQ BX BO o0 o1 o2 hB3 hXl hOl hS3 hQ3 hs4
  obtain ⟨s0, s1⟩ := cells2 bS
  obtain ⟨r0, r1, r2, r3, r4, r5, r6⟩ := cells7 bQ
  obtain ⟨x0, x1, x2⟩ := (⟨(cells2 bX).1, (cells2 bX).2, trivial⟩ : _ ∧ _ ∧ True)
  obtain ⟨o0, o1, o2⟩ := cells3 bO
  have BS := Hid.intro bS
  have BQ := Hid.intro bQ
  have BX := Hid.intro bX
  have BO := Hid.intro bO
  clear bS bQ bX bO x2
  go_wp2_with (go_at_call 26; refine (crOk_any _).mono ?_; rintro e w' ⟨rfl, rfl⟩)
  all_goals first | (go_ret; exact ⟨rfl, hB4⟩) | skip
  have hz : ¬ zr.code = 0 := by assumption
  have h2 : (zr.code == 0) = false ∧ r.kind < 3 := by assumption
  obtain ⟨hok, hdo⟩ := atmZ_code HZ.out hz
  obtain ⟨a1, a2, a3, a4⟩ := atmOk_and hok
  obtain ⟨p1, p2, p3, p4, ⟨p5, p6⟩, p7⟩ := atmOk_parts hok
  obtain ⟨q1, q2, q3⟩ := req_parts p7
  have e1 : wrap64 (1 - r.id) = 1 - r.id := by unfold wrap64; omega
  have e2 : wrap64 (who + 1) = who + 1 := by unfold wrap64; omega
  have hw := who_next p5 p6
  rw [e1, e2]
  obtain ⟨who', hwho⟩ : ∃ k, k = (who + 1).tmod 3 := ⟨_, rfl⟩
  rw [← hwho] at hw ⊢
  obtain ⟨id', hid⟩ : ∃ k, k = 1 - r.id := ⟨_, rfl⟩
  have a5 : reqOkB { r with id := id' } = true := by rw [hid]; exact atm_id a4
  have hZ2 : atmZ ms s who' { r with id := id' } = (zs, { zr with id := id' }) := by
    have h1 : atmOkB ms s who' { r with id := id' } = true := by simp only [atmOkB, Bool.and_eq_true]; exact ⟨a1, a2, hw, a5⟩
    have h3 := atm_who (who' := who') (id' := id') hok h2.2
    rw [hdo] at h3
    rw [atmZ_may h1]; exact h3
  rw [← hid]
  have HZ2 := Hid.intro hZ2
  clear hz h2 hok hdo a1 a2 a3 a4 a5 hZ2 p1 p2 p3 p4 p5 p6 p7 q1 q2 q3 e1 e2 hw hwho hid
  refine (atmF_at HC.out HZ2.out (HM4.out.below (below_nw _ _)) xc xm (HS4.out.below (below_nw _ _)) (pd := pd) (pl := pl) (cd := cd) (cl := cl) ⟨HR4.out.data.below (below_nw _ _), HR4.out.lanes.below (below_nw _ _), HR4.out.cd1, HR4.out.cd2, HR4.out.cl1, HR4.out.cl2⟩).mono ?_
  rintro e w5 ⟨kw, mw, kh, mh, kx, mx, rfl, hO, hb5⟩
  have bP : w5.heap[w4.heap.size]? = some (.cells #[.int .i64 id', .int .i64 r.kind, .int .i64 r.addr, .int .i64 r.many, .bool r.wrap, .slice pd r.data.length cd, .slice pl r.lanes.length cl] 30 (0, 0)) := (hb5.block _ (by simp)).trans (nw_at _ rfl)
  have hg5 : Below w4.heap.size w4 w5 := Below.trans (below_nw w4 _) (hb5.mono (by simp))
  have hs5' := hb5.size
  simp only [World.size_alloc] at hs5'
  have bX := (hg5.block X hX4).trans BX.out
  have bO := (hg5.block O hO4).trans BO.out
  have HO5 := Hid.intro (HO4.out.below hg5)
  have HK5 := Hid.intro hO
  have hB5 := hB4.trans (hg5.mono hB4.size)
  obtain ⟨P, eP⟩ : ∃ P, P = w4.heap.size := ⟨_, rfl⟩
  rw [← eP] at bP ⊢
  have hX5 : X < w5.heap.size := by omega
  have hO5 : O < w5.heap.size := by omega
  have hP5 : P < w5.heap.size := by omega
  clear hb5 hg5 hO HM4 HS4 HR4 HO4 BS BQ BX BO s0 s1 r0 r1 r2 r3 r4 r5 r6 x0 x1 o0 o1 o2 hB4 eP hs5'
  obtain ⟨x0, x1⟩ := cells2 bX
  have BO := Hid.intro bO
  have BP := Hid.intro bP
  clear bX bO bP
  unfold stV rspV
  go_wp2_with fail
  refine (crAtm_same zs qw kw qh kh dw mw dh mh _ (HO5.out.st.below (below_two _ _ _)) (HK5.out.st.below (below_two _ _ _))).mono ?_
  rintro e w6 ⟨rfl, hb6⟩
  have bT : w6.heap[w5.heap.size + 1]? = some (.cells #[.int .i64 id', .int .i64 zr.code, .slice kx zr.data.length mx] 34 (0, 0)) := (hb6.block _ (by simp)).trans (two_at1 _ _ _)
  have hg6 : Below w5.heap.size w5 w6 := (below_two w5 _ _).trans (hb6.mono (by simp; omega))
  have hs6 := hb6.size
  simp only [World.size_alloc] at hs6
  have bO := (hg6.block O hO5).trans BO.out
  have bP := (hg6.block P hP5).trans BP.out
  have HO6 := Hid.intro (HO5.out.rsp.below hg6)
  have HK6 := Hid.intro (HK5.out.rsp.below hg6)
  have hB6 := hB5.trans (hg6.mono hB5.size)
  have hP6 : P < w6.heap.size := by omega
  have hT6 : w5.heap.size + 1 < w6.heap.size := by omega
  clear hb6 hg6 HO5 HK5 BO BP x0 x1 hB5
  obtain ⟨o0, o1, o2⟩ := cells3 bO
  obtain ⟨t0, t1, t2⟩ := cells3 bT
  have BT := Hid.intro bT
  have BP := Hid.intro bP
  clear bO bT bP
  go_wp2_with fail
  refine (crInts_same kx qx mx dx zr.data w6 HK6.out.data HO6.out.data HK6.out.c1 HK6.out.c2 HO6.out.c1 HO6.out.c2).mono ?_
  rintro e w7 ⟨rfl, hb7⟩
  have bT := (hb7.block _ hT6).trans BT.out
  have bP := (hb7.block _ hP6).trans BP.out
  have hB7 := hB6.trans (hb7.mono hB6.size)
  clear hb7 hB6 t0 t1 t2 o0 o1 o2 BT BP
  obtain ⟨t0, t1, t2⟩ := cells3 bT
  obtain ⟨r0, r1, r2, r3, r4, r5, r6⟩ := cells7 bP
  clear bT bP
  go_wp2
  go_ret
  exact ⟨rfl, hB7⟩

end Go.Proofs.Ytcjlmdjiddadfaa

/-
  Proved: the law FnAtmWho: what is read or written does not hang on who asks, nor on the name. At every code (a row of bytes of any length) the law answers true and leaves its argument as it was. No condition.
-/
namespace Go.Proofs.Ytcjlmdjiddadfaa.fnAtmWho
open Go.ChangeShapes Go.WideShapes Go.ChangeAt Go.RowKit
set_option linter.unusedVariables false
set_option linter.unusedSimpArgs false

set_option maxRecDepth 100000 in
theorem lifted (hI : AtmDoC) (os : Os) (started : os.Started) (H : Type) (enc : TypeId × Value → H) :
    ReturnsInHanded {} Try.checked os 13 .any (Rows.fnAtmWhoSpec.pre6 enc Try.prog Try.f13 Rows.fnAtmWhoRow.domain false) (Rows.fnAtmWhoSpec.post enc Try.prog Try.f13 false true false false) := by
  refine returnsInHanded_of_change (C := Try.checked) ownB started (by kernel_rfl) Try.func13
    (ChangeSpec.witness6 (enc := enc) (C := Try.checked) false ⟨#[], #[.slice none 0 0], []⟩ 8 (by kernel_rfl) (by kernel_rfl) (by kernel_rfl) (by kernel_rfl)) ?_
  intro W base args ds gs before hval0 hW hcnd _
  have hval : ∀ (j : Nat) t v, Try.f13.params[j]? = some t → args[j]? = some v → Value.okWide Try.prog W .any base t v := hval0
  have hW' := hW
  obtain ⟨p, q, hA0, hV, rfl, hfz, hnd⟩ := hW
  have hA : DataW.TrodAll enc Try.prog W 0 (fun _ => true) true Try.f13.params.toList args.toList ds p := hA0
  rw [Try.params13] at hA hval
  obtain ⟨v0, vs0, d0, ds0, p0, q0, hargs, rfl, rfl, h0, r0⟩ := trodAll_cons hA
  obtain ⟨rfl, rfl, rfl⟩ := trodAll_nil r0
  obtain rfl : args = #[v0] := by cases args; simp_all
  obtain ⟨rfl, rfl⟩ := trodVars_none hV
  obtain ⟨a0, len0, cap0, rfl⟩ := okWide_slice Try.underlying22 (hval 0 22 v0 rfl rfl)
  have k0 := h0
  have lt0 : ∀ x ∈ p0, x.block < W.heap.size := by obtain ⟨m, hm⟩ := k0; exact DataW.trod_lt m _ _ _ hm
  obtain ⟨hx, hc, hm⟩ := open_bytes h0
  clear hA0 hval0
  refine (walkC_FnAtmWho hI a0 len0 cap0 W hc hm hx).mono fun e W' ⟨he, bel⟩ => ?_
  subst he
  exact ⟨_, rfl, _, _, _, [], _, [], hW', trodAll_mk1 (shut_bool Try.underlying4 _), (trodAll_cons_mk (Below.trod laidOutC (by kernel_rfl) (of_decide_eq_true (by kernel_rfl)) k0 bel lt0) trodAll_mk0), rfl, bel.frame _, fun h => by cases h⟩

theorem over (hI : AtmDoC) : Rows.fnAtmWhoRow.holds Try.pinned (OpenSpec.ofChange Rows.fnAtmWhoSpec) :=
  OpenClaim.holds_of_wide 13 Try.f13 rfl rfl rfl rfl rfl rfl rfl ⟨rfl, rfl, rfl, rfl, rfl⟩ rfl rfl rfl rfl rfl (by kernel_rfl) Try.func13 (by kernel_rfl)
    (of_decide_eq_true (by kernel_rfl)) (by unfold Func.isWrapper; first | (rw [if_pos (by decide +kernel)]; kernel_rfl) | (rw [if_neg (by decide +kernel)]; exact ⟨rfl, rfl⟩))
    (fun os started H enc _ => lifted hI os started H enc)

theorem proved_of (hI : AtmDoC) : Rows.FnAtmWhoSaid := over hI
end Go.Proofs.Ytcjlmdjiddadfaa.fnAtmWho

namespace Go.Proofs.Ytcjlmdjiddadfaa.fnAtmWho

theorem proved : Rows.FnAtmWhoSaid := proved_of impl_AtmDo
end Go.Proofs.Ytcjlmdjiddadfaa.fnAtmWho
