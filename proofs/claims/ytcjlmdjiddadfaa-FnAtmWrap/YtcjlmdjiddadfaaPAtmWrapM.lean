/-
  Proved: FnAtmWrap.
-/
import Derived.Test.YtcjlmdjiddadfaaProg
import Derived.Test.YtcjlmdjiddadfaaCrOkM
import Derived.Test.YtcjlmdjiddadfaaSpcH
import Derived.BigQuiet
import Derived.Test.YtcjlmdjiddadfaaRows
import Derived.Test.YtcjlmdjiddadfaaLawB
import Derived.Test.YtcjlmdjiddadfaaImpKM
/-
  The law FnAtmWrap, walked, by what AtmDo of the program answers.
-/
namespace Go.Proofs.Ytcjlmdjiddadfaa
open Go.RowKit
set_option linter.unusedSimpArgs false
set_option linter.unusedVariables false

theorem whole_of {ms : List Rng} {l : List Int} (h : ¬ wholeZ ms l < 0) : ∃ v : Int, 0 ≤ v ∧ ∀ x ∈ l, findAt ms x 0 = v := by
  cases l with
  | nil => exact absurd (show (-1 : Int) < 0 by decide) h
  | cons a l =>
    by_cases hall : (l.all fun x => findAt ms x 0 == findAt ms a 0) = true
    · have e : wholeZ ms (a :: l) = findAt ms a 0 := if_pos hall
      rw [e] at h
      refine ⟨findAt ms a 0, by omega, fun x hx => ?_⟩
      rcases List.mem_cons.1 hx with rfl | hx
      · rfl
      · have := List.all_eq_true.1 hall x hx
        simpa using this
    · have e : wholeZ ms (a :: l) = -1 := if_neg hall
      rw [e] at h
      exact absurd (show (-1 : Int) < 0 by decide) h
theorem whole_sub {ms : List Rng} {l : List Int} {v : Int} (hne : l ≠ []) (h : ∀ x ∈ l, findAt ms x 0 = v) : wholeZ ms l = v := by
  cases l with
  | nil => exact absurd rfl hne
  | cons a l =>
    have ha := h a (List.mem_cons_self ..)
    have hall : (l.all fun x => findAt ms x 0 == findAt ms a 0) = true := by
      rw [List.all_eq_true]
      intro x hx
      have hx := h x (List.mem_cons_of_mem _ hx)
      rw [ha, hx]; simp
    exact (show wholeZ ms (a :: l) = findAt ms a 0 from if_pos hall).trans ha
theorem base_ok {a m : Int} (h : adrOkB a m true = true) : adrOkB (a - a % m) m false = true := by
  obtain ⟨h1, h2, h3, h4⟩ := (adrOk_iff a m true).1 h
  rw [adrOk_iff]
  rcases h3 with rfl | rfl | rfl <;> refine ⟨by omega, by omega, by omega, .inr (by omega)⟩
theorem base_sub {a m : Int} (h : adrOkB a m true = true) : ∀ x ∈ burst (a - a % m) m false, x ∈ burst a m true := by
  intro x hx
  obtain ⟨h1, h2, h3, h4⟩ := (adrOk_iff a m true).1 h
  rw [burst_ok (base_ok h)] at hx
  rw [burst_ok h]
  obtain ⟨k, hk, rfl⟩ := List.mem_map.1 hx
  simp at hk
  refine List.mem_map.2 ⟨(((k : Int) - a % m) % m).toNat, ?_, ?_⟩
  · simp; rcases h3 with rfl | rfl | rfl <;> omega
  · rcases h3 with rfl | rfl | rfl <;> simp [burstAt] <;> omega
theorem whole_base {ms : List Rng} {a m : Int} (h : adrOkB a m true = true) (hw : ¬ wholeZ ms (burst a m true) < 0) : ¬ wholeZ ms (burst (a - a % m) m false) < 0 := by
  obtain ⟨v, hv, hall⟩ := whole_of hw
  have hl := burst_ln (base_ok h)
  obtain ⟨h1, h2, h3, h4⟩ := (adrOk_iff a m true).1 h
  rw [whole_sub (v := v) (fun e => by rw [e] at hl; simp at hl; omega) (fun x hx => hall x (base_sub h x hx))]
  omega
theorem burst_nth {x m : Int} {wrap : Bool} (h : adrOkB x m wrap = true) (k : Nat) (hk : k < (burst x m wrap).length) : (burst x m wrap)[k] = burstAt x m wrap (k : Int) := by
  have e := burst_ok h
  have h2 : (burst x m wrap)[k]? = some (burstAt x m wrap (k : Int)) := by
    rw [e] at hk ⊢
    simp at hk
    simp [hk]
  rw [List.getElem?_eq_getElem hk] at h2
  exact Option.some.inj h2
theorem wrap_get {ws : List Int} {a m : Int} {k : Nat} (h : adrOkB a m true = true) (hk : (k : Int) < m) :
    ∃ j : Nat, (a - (a - a % m) + k) % m = (j : Int) ∧ ∃ (h1 : k < (getAll ws (burst a m true)).length) (h2 : j < (getAll ws (burst (a - a % m) m false)).length), (getAll ws (burst a m true))[k] = (getAll ws (burst (a - a % m) m false))[j] := by
  obtain ⟨g1, g2, g3, g4⟩ := (adrOk_iff a m true).1 h
  have l1 := burst_ln h
  have l2 := burst_ln (base_ok h)
  have hp : 0 < m := by omega
  have hn := Int.emod_nonneg (a - (a - a % m) + k) (show m ≠ 0 by omega)
  have hlt := Int.emod_lt_of_pos (a - (a - a % m) + k) hp
  refine ⟨((a - (a - a % m) + k) % m).toNat, by omega, by rw [getAll_len]; omega, by rw [getAll_len]; omega, ?_⟩
  simp only [getAll, List.getElem_map]
  rw [burst_nth h, burst_nth (base_ok h)]
  simp only [burstAt]
  rw [Int.toNat_of_nonneg hn]
  congr 1
  simp only [if_true, Bool.false_eq_true, if_false]
  rw [show a + (k : Int) - (a - a % m) = a - (a - a % m) + k by omega]

set_option maxRecDepth 100000 in
set_option maxHeartbeats 8000000 in
theorem walkC_FnAtmWrap (hI : AtmDoC) (a : Option Addr) (len cap : Nat) (w : World) (hc : len ≤ cap) (hm : cap ≤ 9223372036854775807) (h : Bytes w w.heap.size a len) :
    Calls Try.prog 15 #[.slice a len cap] w fun e w' => e = .returned (.bool true) ∧ Below w.heap.size w w' := by
  by_cases hl : 1048576 < len
  · have hI1 : (1048576 : Int) < (len : Int) := by omega
    clear h hI
    go_enter Try.func15, Try.ntmps15
    go_wp2
    go_ret
    exact ⟨rfl, Below.refl _ _⟩
  have hI1 : ¬ (1048576 : Int) < (len : Int) := by omega
  have HB := Hid.intro h
  have HC := Hid.intro hI
  clear h hI
  go_enter Try.func15, Try.ntmps15
  go_wp2_with fail
  refine (drawAtmDo_any a len cap w hc hm HB.out).mono ?_
  rintro e w1 ⟨b, c, ms, s, bw, ow, cw, bh, oh, ch, who, r, pd, cd, pl, cl, rfl, hM, xc, xm, x1, x7, hS, y1, y2, hR, z1, z2, hb1⟩
  obtain ⟨zs, zr, hZ⟩ : ∃ zs zr, atmZ ms s who r = (zs, zr) := ⟨_, _, rfl⟩
  have HZ := Hid.intro hZ
  have HM := Hid.intro hM
  have HS := Hid.intro hS
  have HR := Hid.intro hR
  clear hM hS hR hZ
  unfold stV reqV
  go_wp2_with fail
  refine (atmF_at HC.out HZ.out (HM.out.below (below_two _ _ _)) xc xm (HS.out.below (below_two _ _ _)) (HR.out.below (below_two _ _ _))).mono ?_
  rintro e w2 ⟨qw, dw, qh, dh, qx, dx, rfl, hO, hb2⟩
  have hs1 := hb1.size
  have hs2 := hb2.size
  simp only [World.size_alloc] at hs2
  have bS : w2.heap[w1.heap.size]? = some (.cells #[.slice (some ⟨bw, ow, none⟩) s.words.length cw, .slice (some ⟨bh, oh, none⟩) s.holds.length ch] 28 (0, 0)) := (hb2.block _ (by simp; omega)).trans (two_at0 _ _ _)
  have bQ : w2.heap[w1.heap.size + 1]? = some (.cells #[.int .i64 r.id, .int .i64 r.kind, .int .i64 r.addr, .int .i64 r.many, .bool r.wrap, .slice pd r.data.length cd, .slice pl r.lanes.length cl] 30 (0, 0)) := (hb2.block _ (by simp)).trans (two_at1 _ _ _)
  have HM2 := Hid.intro ((HM.out.below (below_two _ _ _)).below hb2)
  have HS2 := Hid.intro ((HS.out.below (below_two _ _ _)).below hb2)
  have HR2 := Hid.intro ((HR.out.below (below_two _ _ _)).below hb2)
  have HO2 := Hid.intro hO
  have hB2 := (hb1.trans ((below_two w1 _ _).mono hb1.size)).trans (hb2.mono (by simp; omega))
  obtain ⟨S, eS⟩ : ∃ S, S = w1.heap.size := ⟨_, rfl⟩
  obtain ⟨Q, eQ⟩ : ∃ Q, Q = w1.heap.size + 1 := ⟨_, rfl⟩
  rw [← eQ] at bQ ⊢
  rw [← eS] at bS ⊢
  have hSl : S < w2.heap.size := by omega
  have hQl : Q < w2.heap.size := by omega
  have hnSQ : S ≠ Q := by omega
  clear hb1 hb2 hO HM HS HR eS eQ hs2 hs1
  obtain ⟨s0, s1⟩ := cells2 bS
  obtain ⟨r0, r1, r2, r3, r4, r5, r6⟩ := cells7 bQ
  have BS := Hid.intro bS
  have BQ := Hid.intro bQ
  clear bS bQ
  unfold stV rspV
  go_wp2_with fail
  refine (atmF_at spec_AtmDo HZ.out (HM2.out.below (below_two _ _ _)) xc xm (HS2.out.below (below_two _ _ _)) (HR2.out.below (below_two _ _ _))).mono ?_
  rintro e w3 ⟨kw, mw, kh, mh, kx, mx, rfl, hO, hb3⟩
  have hs3 := hb3.size
  simp only [World.size_alloc] at hs3
  have bX : w3.heap[w2.heap.size]? = some (.cells #[.slice qw zs.words.length dw, .slice qh zs.holds.length dh] 28 (0, 0)) := (hb3.block _ (by simp; omega)).trans (two_at0 _ _ _)
  have bO : w3.heap[w2.heap.size + 1]? = some (.cells #[.int .i64 zr.id, .int .i64 zr.code, .slice qx zr.data.length dx] 34 (0, 0)) := (hb3.block _ (by simp)).trans (two_at1 _ _ _)
  have hg3 : Below w2.heap.size w2 w3 := (below_two w2 _ _).trans (hb3.mono (by simp; omega))
  have bS := (hg3.block S hSl).trans BS.out
  have bQ := (hg3.block Q hQl).trans BQ.out
  have HM3 := Hid.intro (HM2.out.below hg3)
  have HS3 := Hid.intro (HS2.out.below hg3)
  have HR3 := Hid.intro (HR2.out.below hg3)
  have HO3 := Hid.intro (HO2.out.below hg3)
  have HK3 := Hid.intro hO
  have hB3 := hB2.trans (hg3.mono hB2.size)
  obtain ⟨X, eX⟩ : ∃ X, X = w2.heap.size := ⟨_, rfl⟩
  obtain ⟨O, eO⟩ : ∃ O, O = w2.heap.size + 1 := ⟨_, rfl⟩
  rw [← eO] at bO ⊢
  rw [← eX] at bX ⊢
  have hXl : X < w3.heap.size := by omega
  have hOl : O < w3.heap.size := by omega
  have hS3 : S < w3.heap.size := by omega
  have hQ3 : Q < w3.heap.size := by omega
  have hnSX : S ≠ X := by omega
  have hnQX : Q ≠ X := by omega
  have hnSO : S ≠ O := by omega
  have hnQO : Q ≠ O := by omega
  have hnXO : X ≠ O := by omega
  clear hb3 hg3 hO HM2 HS2 HR2 HO2 BS BQ s0 s1 r0 r1 r2 r3 r4 r5 r6 hB2 hSl hQl eX eO hs3
  obtain ⟨o0, o1, o2⟩ := cells3 bO
  have BS := Hid.intro bS
  have BQ := Hid.intro bQ
  have BX := Hid.intro bX
  have BO := Hid.intro bO
  clear bS bQ bX bO
  unfold stV rspV
  go_wp2_with fail
  refine (crRsp_same zr qx kx dx mx _ (HO3.out.rsp.below (below_two _ _ _)) (HK3.out.rsp.below (below_two _ _ _))).mono ?_
  rintro e w4 ⟨rfl, hb4⟩
  have hg4 : Below w3.heap.size w3 w4 := (below_two w3 _ _).trans (hb4.mono (by simp; omega))
  have hs4 := hg4.size
  have bS := (hg4.block S hS3).trans BS.out
  have bQ := (hg4.block Q hQ3).trans BQ.out
  have bX := (hg4.block X hXl).trans BX.out
  have bO := (hg4.block O hOl).trans BO.out
  have HM4 := Hid.intro (HM3.out.below hg4)
  have HS4 := Hid.intro (HS3.out.below hg4)
  have HR4 := Hid.intro (HR3.out.below hg4)
  have HO4 := Hid.intro (HO3.out.below hg4)
  have hB4 := hB3.trans (hg4.mono hB3.size)
  have hS4 : S < w4.heap.size := by omega
  have hQ4 : Q < w4.heap.size := by omega
  have hX4 : X < w4.heap.size := by omega
  have hO4 : O < w4.heap.size := by omega
  clear hb4 hg4 HM3 HS3 HR3 HO3 HK3 BS BQ BX BO o0 o1 o2 hB3 hXl hOl hS3 hQ3 hs4
  obtain ⟨s0, s1⟩ := cells2 bS
  obtain ⟨r0, r1, r2, r3, r4, r5, r6⟩ := cells7 bQ
  obtain ⟨x0, x1, x2⟩ := (⟨(cells2 bX).1, (cells2 bX).2, trivial⟩ : _ ∧ _ ∧ True)
  obtain ⟨o0, o1, o2⟩ := cells3 bO
  have BS := Hid.intro bS
  have BQ := Hid.intro bQ
  have BX := Hid.intro bX
  have BO := Hid.intro bO
  clear bS bQ bX bO x2
  by_cases c1 : zr.code = 1
  case neg =>
    have n1 : (zr.code == 1) = false := by simpa using c1
    go_wp2_with (go_at_call 26; refine (crOk_any _).mono ?_; rintro e w' ⟨rfl, rfl⟩)
    go_ret
    exact ⟨rfl, hB4⟩
  have n1 : (zr.code == 1) = true := by simpa using c1
  by_cases c2 : r.kind = 1
  case neg =>
    have n2 : (r.kind == 1) = false := by simpa using c2
    go_wp2_with (go_at_call 26; refine (crOk_any _).mono ?_; rintro e w' ⟨rfl, rfl⟩)
    go_ret
    exact ⟨rfl, hB4⟩
  have n2 : (r.kind == 1) = true := by simpa using c2
  by_cases c3 : r.wrap = true
  case neg =>
    have n3 : r.wrap = false := by simpa using c3
    go_wp2_with (go_at_call 26; refine (crOk_any _).mono ?_; rintro e w' ⟨rfl, rfl⟩)
    go_ret
    exact ⟨rfl, hB4⟩
  obtain ⟨hok, hdo⟩ := atmZ_code HZ.out (by omega)
  obtain ⟨a1, a2, a3, a4⟩ := atmOk_and hok
  obtain ⟨p1, p2, p3, p4, ⟨p5, p6⟩, p7⟩ := atmOk_parts hok
  obtain ⟨q1, q2, q3⟩ := req_parts p7
  have hnz : ¬ wholeZ ms (burst r.addr r.many r.wrap) < 0 := by
    intro hz
    rw [atmDo_none hz] at hdo
    injection hdo with e1 e2
    rw [← e2] at c1
    simp at c1
  have hd2 := hdo
  rw [atmDo_read hnz c2] at hd2
  injection hd2 with e1 e2
  have ed : zr.data = getAll s.words (burst r.addr r.many true) := by rw [← e2, c3]
  rw [c3] at hnz q2
  obtain ⟨m1, m2, m3, m4⟩ := (adrOk_iff _ _ _).1 q2
  obtain ⟨B, eB⟩ : ∃ B, B = r.addr - r.addr % r.many := ⟨_, rfl⟩
  have ht : r.addr.tmod r.many = r.addr % r.many := Int.tmod_eq_emod_of_nonneg m1
  have hB0 : 0 ≤ B ∧ B ≤ r.addr := by rw [eB]; rcases m3 with m | m | m <;> rw [m] <;> omega
  have bok : adrOkB B r.many false = true := by rw [eB]; exact base_ok q2
  have bnz : ¬ wholeZ ms (burst B r.many false) < 0 := by rw [eB]; exact whole_base q2 hnz
  obtain ⟨ad, ead⟩ : ∃ l, l = getAll s.words (burst B r.many false) := ⟨_, rfl⟩
  have hV : ∀ k : Nat, (k : Int) < r.many → ∃ j : Nat, (r.addr - B + k).tmod r.many = (j : Int) ∧ ∃ (h1 : k < zr.data.length) (h2 : j < ad.length), zr.data[k] = ad[j] := by
    intro k hk
    obtain ⟨j, hj, h1, h2, e⟩ := wrap_get (ws := s.words) q2 hk
    rw [← eB] at hj
    refine ⟨j, by rw [Int.tmod_eq_emod_of_nonneg (by omega)]; exact hj, by rw [ed]; exact h1, by rw [ead, eB]; exact h2, ?_⟩
    simp only [ed, ead, eB]
    exact e
  have qok : reqOkB ⟨r.id, 1, B, r.many, false, [], []⟩ = true := by
    have : (0 ≤ r.id ∧ r.id ≤ 1) := by omega
    simp [reqOkB, reqHeadB, reqOneB, writesB, reqNoneB, inB, bok, this]
  have hZ2 : atmZ ms s who ⟨r.id, 1, B, r.many, false, [], []⟩ = (s, ⟨r.id, 1, ad⟩) := by
    have h1 : atmOkB ms s who ⟨r.id, 1, B, r.many, false, [], []⟩ = true := by simp only [atmOkB, Bool.and_eq_true]; exact ⟨a1, a2, a3, qok⟩
    rw [atmZ_may h1, atmDo_read (r := ⟨r.id, 1, B, r.many, false, [], []⟩) bnz rfl, ead]
  have w1' : wrap64 (r.addr - r.addr.tmod r.many) = B := by rw [ht, ← eB]; unfold wrap64; omega
  have w2' : IntKind.i64.wrap (r.addr - r.addr.tmod r.many) = B := by rw [ht, ← eB]; exact wrapI (by omega) (by omega)
  have m0 : (r.many == 0) = false := by simp; omega
  have m0' : ¬ r.many = 0 := by omega
  have HV := Hid.intro hV
  have HZ2 := Hid.intro hZ2
  have Hm := Hid.intro (show 0 ≤ B ∧ B ≤ r.addr ∧ r.addr ≤ 63 ∧ 1 ≤ r.many ∧ r.many ≤ 4 by omega)
  obtain ⟨n, en⟩ : ∃ n : Nat, r.many = (n : Int) := ⟨r.many.toNat, by omega⟩
  have Hn := Hid.intro en
  clear hok hdo e1 e2 ed a1 a2 a3 a4 p1 p2 p3 p4 p5 p6 p7 q1 q2 q3 hnz m1 m2 m3 m4 eB ht hB0 bok bnz ead hV qok hZ2 en n1 n2
  go_wp2_with fail
  go_quiet (fail)
  generalize hwd : w4.drewN nq = wd
  have hD : Below w4.heap.size w4 wd := by rw [← hwd]; have hbr := Below.refl w4.heap.size w4; exact ⟨hbr.os, hbr.tape, hbr.output, hbr.size, hbr.block⟩
  have hDs := hD.size
  have bS := (hD.block S hS4).trans BS.out
  have bQ := (hD.block Q hQ4).trans BQ.out
  have bO := (hD.block O hO4).trans BO.out
  have HMd := Hid.intro (HM4.out.below hD)
  have HSd := Hid.intro (HS4.out.below hD)
  have HOd := Hid.intro (HO4.out.below hD)
  have hBd := hB4.trans (hD.mono hB4.size)
  have hQd : Q < wd.heap.size := by omega
  have hSd : S < wd.heap.size := by omega
  have hOd : O < wd.heap.size := by omega
  clear hD hwd HM4 HS4 HR4 HO4 BS BQ BX BO s0 s1 r0 r1 r2 r3 r4 r5 r6 x0 x1 o0 o1 o2 hB4 hS4 hQ4 hX4 hO4 w1' w2' hDs
  obtain ⟨s0, s1⟩ := cells2 bS
  obtain ⟨r0, r1, r2, r3, r4, r5, r6⟩ := cells7 bQ
  have BQ := Hid.intro bQ
  have BO := Hid.intro bO
  clear bS bQ bO
  go_wp2_with fail
  refine (atmF_at HC.out HZ2.out (HMd.out.below (below_nw _ _)) xc xm (HSd.out.below (below_nw _ _)) (r := ⟨r.id, 1, B, r.many, false, [], []⟩) (pd := none) (pl := none) (cd := 0) (cl := 0) ⟨.inl rfl, .inl rfl, by simp, by simp, by simp, by simp⟩).mono ?_
  rintro e w5 ⟨kw, mw, kh, mh, kx, mx, rfl, hO, hb5⟩
  have hg5 : Below wd.heap.size wd w5 := Below.trans (below_nw wd _) (hb5.mono (by simp))
  have hs5 := hg5.size
  have bQ := (hg5.block Q hQd).trans BQ.out
  have bO := (hg5.block O hOd).trans BO.out
  have HO5 := Hid.intro (HOd.out.rsp.below hg5)
  have HK5 := Hid.intro hO.rsp
  have hB5 := hBd.trans (hg5.mono hBd.size)
  have hQ5 : Q < w5.heap.size := by omega
  have hO5 : O < w5.heap.size := by omega
  have BQ5 := Hid.intro bQ
  have BO5 := Hid.intro bO
  clear hb5 hg5 hO HMd HSd HOd BQ BO s0 s1 r0 r1 r2 r3 r4 r5 r6 hBd bQ bO
  unfold stV rspV
  go_wp2
  go_loopw [15] (fun i wr => ∃ k : Nat, k ≤ n ∧ i = .int .i64 k ∧ Below w5.heap.size w5 wr ∧ wr.heap[w5.heap.size + 1]? = some (.cells #[.int .i64 r.id, .int .i64 1, .slice kx ad.length mx] 34 (0, 0))) (fun i _ => n - (intOf i).toNat)
  case atStart => exact ⟨0, Nat.zero_le _, rfl, below_two w5 _ _, two_at1 _ _ _⟩
  case round =>
    obtain ⟨k, hkl, rfl, hbl, hT⟩ := hrel
    have hmn := Hn.out
    obtain ⟨u1, u2, u3, u4, u5⟩ := Hm.out
    obtain ⟨r0, r1, r2, r3, r4, r5, r6⟩ := cells7 ((hbl.block Q hQ5).trans BQ5.out)
    obtain ⟨o0, o1, o2⟩ := cells3 ((hbl.block O hO5).trans BO5.out)
    obtain ⟨t0, t1, t2⟩ := cells3 hT
    by_cases hlt : k < n
    · have hkm : (k : Int) < r.many := by omega
      obtain ⟨j, ej, h1, h2, ee⟩ := HV.out k hkm
      rcases HO5.out.data with hx | ⟨b, off, rfl, hb, hcells⟩
      · rw [hx] at h1; simp at h1
      rcases HK5.out.data with hx | ⟨b', off', rfl, hb', hcells'⟩
      · have hx' : ad = [] := hx
        rw [hx'] at h2; simp at h2
      have HK := Hid.intro (show k + 1 ≤ n by omega)
      have hk4 : (k : Int) < 4 := by omega
      have hk0 : (0 : Int) ≤ (k : Int) := by omega
      have hk1 : (k : Int) < (zr.data.length : Int) := by omega
      have hj0 : (0 : Int) ≤ (j : Int) := by omega
      have hj1 : (j : Int) < (ad.length : Int) := by omega
      have hc1 : wr.cell? ⟨b, off + k, none⟩ = some (.int .i64 ad[j]) := (hbl.cell (p := ⟨b, off + k, none⟩) hb).trans ((hcells k h1).trans (by rw [ee]))
      have hc2 : wr.cell? ⟨b', off' + j, none⟩ = some (.int .i64 ad[j]) := (hbl.cell (p := ⟨b', off' + j, none⟩) hb').trans (hcells' j h2)
      have v1 : wrap64 (r.addr - B) = r.addr - B := by unfold wrap64; omega
      have v2 : wrap64 (r.addr - B + k) = r.addr - B + k := by unfold wrap64; omega
      have v3 : IntKind.i64.wrap (r.addr - B) = r.addr - B := wrapI (by omega) (by omega)
      have v4 : IntKind.i64.wrap (r.addr - B + k) = r.addr - B + k := wrapI (by omega) (by omega)
      clear hcells hcells' hmn u1 u2 u3 u4 u5 ee HV Hm HO5 HK5 BQ5 BO5
      go_wp2_with fail
      go_quiet (fail)
      all_goals go_wp2
      all_goals go_roundw
      case rel => exact ⟨k + 1, HK.out, by go_num, by first | exact hbl.drew | exact ⟨hbl.os, hbl.tape, hbl.output, hbl.size, hbl.block⟩, by first | exact hT | simpa using hT⟩
      case measure => have := HK.out; simp [intOf]; omega
    · have hk3 : ¬ (k : Int) < r.many := by omega
      clear hmn u1 u2 u3 u4 u5 HV Hm HO5 HK5 BQ5 BO5
      go_wp2
      go_ret
      exact ⟨rfl, hB5.trans (hbl.mono hB5.size)⟩

end Go.Proofs.Ytcjlmdjiddadfaa

/-
  Proved: the law FnAtmWrap: round about words come round about. At every code (a row of bytes of any length) the law answers true and leaves its argument as it was. No condition.
-/
namespace Go.Proofs.Ytcjlmdjiddadfaa.fnAtmWrap
open Go.ChangeShapes Go.WideShapes Go.ChangeAt Go.RowKit
set_option linter.unusedVariables false
set_option linter.unusedSimpArgs false

set_option maxRecDepth 100000 in
theorem lifted (hI : AtmDoC) (os : Os) (started : os.Started) (H : Type) (enc : TypeId × Value → H) :
    ReturnsInHanded {} Try.checked os 15 .any (Rows.fnAtmWrapSpec.pre6 enc Try.prog Try.f15 Rows.fnAtmWrapRow.domain false) (Rows.fnAtmWrapSpec.post enc Try.prog Try.f15 false true false false) := by
  refine returnsInHanded_of_change (C := Try.checked) ownB started (by kernel_rfl) Try.func15
    (ChangeSpec.witness6 (enc := enc) (C := Try.checked) false ⟨#[], #[.slice none 0 0], []⟩ 8 (by kernel_rfl) (by kernel_rfl) (by kernel_rfl) (by kernel_rfl)) ?_
  intro W base args ds gs before hval0 hW hcnd _
  have hval : ∀ (j : Nat) t v, Try.f15.params[j]? = some t → args[j]? = some v → Value.okWide Try.prog W .any base t v := hval0
  have hW' := hW
  obtain ⟨p, q, hA0, hV, rfl, hfz, hnd⟩ := hW
  have hA : DataW.TrodAll enc Try.prog W 0 (fun _ => true) true Try.f15.params.toList args.toList ds p := hA0
  rw [Try.params15] at hA hval
  obtain ⟨v0, vs0, d0, ds0, p0, q0, hargs, rfl, rfl, h0, r0⟩ := trodAll_cons hA
  obtain ⟨rfl, rfl, rfl⟩ := trodAll_nil r0
  obtain rfl : args = #[v0] := by cases args; simp_all
  obtain ⟨rfl, rfl⟩ := trodVars_none hV
  obtain ⟨a0, len0, cap0, rfl⟩ := okWide_slice Try.underlying22 (hval 0 22 v0 rfl rfl)
  have k0 := h0
  have lt0 : ∀ x ∈ p0, x.block < W.heap.size := by obtain ⟨m, hm⟩ := k0; exact DataW.trod_lt m _ _ _ hm
  obtain ⟨hx, hc, hm⟩ := open_bytes h0
  clear hA0 hval0
  refine (walkC_FnAtmWrap hI a0 len0 cap0 W hc hm hx).mono fun e W' ⟨he, bel⟩ => ?_
  subst he
  exact ⟨_, rfl, _, _, _, [], _, [], hW', trodAll_mk1 (shut_bool Try.underlying4 _), (trodAll_cons_mk (Below.trod laidOutC (by kernel_rfl) (of_decide_eq_true (by kernel_rfl)) k0 bel lt0) trodAll_mk0), rfl, bel.frame _, fun h => by cases h⟩

theorem over (hI : AtmDoC) : Rows.fnAtmWrapRow.holds Try.pinned (OpenSpec.ofChange Rows.fnAtmWrapSpec) :=
  OpenClaim.holds_of_wide 15 Try.f15 rfl rfl rfl rfl rfl rfl rfl ⟨rfl, rfl, rfl, rfl, rfl⟩ rfl rfl rfl rfl rfl (by kernel_rfl) Try.func15 (by kernel_rfl)
    (of_decide_eq_true (by kernel_rfl)) (by unfold Func.isWrapper; first | (rw [if_pos (by decide +kernel)]; kernel_rfl) | (rw [if_neg (by decide +kernel)]; exact ⟨rfl, rfl⟩))
    (fun os started H enc _ => lifted hI os started H enc)

theorem proved_of (hI : AtmDoC) : Rows.FnAtmWrapSaid := over hI
end Go.Proofs.Ytcjlmdjiddadfaa.fnAtmWrap

namespace Go.Proofs.Ytcjlmdjiddadfaa.fnAtmWrap

theorem proved : Rows.FnAtmWrapSaid := proved_of impl_AtmDo
end Go.Proofs.Ytcjlmdjiddadfaa.fnAtmWrap
