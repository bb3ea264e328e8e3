/-
  To hold and to try, on one range: the plain part.
-/
import Derived.Test.YtpbkpfdbdfnlbaaCrOkM
namespace Go.Proofs.Ytpbkpfdbdfnlbaa
open Go.RowKit
set_option linter.unusedSimpArgs false
set_option linter.unusedVariables false

def ms1 : List Rng := [⟨0, 63, 0, false⟩]
def holdQ (id a : Int) : Req := ⟨id, 3, a, 1, false, [], []⟩
def tryQ (id a : Int) : Req := ⟨id, 4, a, 1, false, [77], [3]⟩
def wrtQ (a l : Int) : Req := ⟨0, 2, a, 1, false, [5], [l]⟩
theorem adr1 {a : Int} (h0 : 0 ≤ a) (h1 : a ≤ 63) : adrOkB a 1 false = true := (adrOk_iff _ _ _).2 ⟨h0, h1, .inl rfl, .inr (by omega)⟩
theorem burst1 {a : Int} (h0 : 0 ≤ a) (h1 : a ≤ 63) : burst a 1 false = [a] := by
  rw [burst_ok (adr1 h0 h1)]
  simp [burstAt]
theorem whole1 {a : Int} (h0 : 0 ≤ a) (h1 : a ≤ 63) : wholeZ ms1 [a] = 0 := by
  simp [wholeZ, ms1, findAt, inRngB, h0, h1]
theorem ms1_ok : mapOkB ms1 = true := by decide
theorem only1 : onlyAt ms1 0 = false := by decide
theorem holdQ_ok {id a : Int} (hi : id = 0 ∨ id = 1) (h0 : 0 ≤ a) (h1 : a ≤ 63) : reqOkB (holdQ id a) = true := by
  have := adr1 h0 h1
  rcases hi with rfl | rfl <;> simp [holdQ, reqOkB, reqHeadB, reqOneB, writesB, reqNoneB, inB, this]
theorem tryQ_ok {id a : Int} (hi : id = 0 ∨ id = 1) (h0 : 0 ≤ a) (h1 : a ≤ 63) : reqOkB (tryQ id a) = true := by
  have := adr1 h0 h1
  rcases hi with rfl | rfl <;> simp [tryQ, reqOkB, reqHeadB, reqOneB, writesB, reqWordsB, inB, this, allIn]
theorem wrtQ_ok {a l : Int} (h0 : 0 ≤ a) (h1 : a ≤ 63) (l0 : 0 ≤ l) (l1 : l ≤ 3) : reqOkB (wrtQ a l) = true := by
  have := adr1 h0 h1
  simp [wrtQ, reqOkB, reqHeadB, reqOneB, writesB, reqWordsB, inB, this, allIn, l0, l1]
theorem ok1 {s : Stt} {who : Int} {r : Req} (hs : stOkB s = true) (hw : inB who 0 2 = true) (hr : reqOkB r = true) : atmOkB ms1 s who r = true := by
  simp only [atmOkB, ms1_ok, hs, hw, hr, Bool.and_self]
theorem hold_eq {s : Stt} {who id a : Int} (hs : stOkB s = true) (hw : inB who 0 2 = true) (hi : id = 0 ∨ id = 1) (h0 : 0 ≤ a) (h1 : a ≤ 63) :
    atmZ ms1 s who (holdQ id a) = (⟨s.words, s.holds.set (atR who id).toNat a⟩, ⟨id, 2, getAll s.words [a]⟩) := by
  have hb : burst (holdQ id a).addr (holdQ id a).many (holdQ id a).wrap = [a] := burst1 h0 h1
  have hz : ¬ wholeZ ms1 (burst (holdQ id a).addr (holdQ id a).many (holdQ id a).wrap) < 0 := by rw [hb, whole1 h0 h1]; omega
  rw [atmZ_may (ok1 hs hw (holdQ_ok hi h0 h1)), atmDo_hold hz rfl, hb]
  rfl
theorem not_deny {r : Req} {a : Int} (hb : burst r.addr r.many r.wrap = [a]) (h0 : 0 ≤ a) (h1 : a ≤ 63) : ¬ (writesB r && onlyAt ms1 (wholeZ ms1 (burst r.addr r.many r.wrap))) = true := by
  rw [hb, whole1 h0 h1, only1]; simp
theorem try_hit {s : Stt} {who id a : Int} (hs : stOkB s = true) (hw : inB who 0 2 = true) (hi : id = 0 ∨ id = 1) (h0 : 0 ≤ a) (h1 : a ≤ 63) (hh : getZ s.holds (atR who id) = a) :
    atmZ ms1 s who (tryQ id a) = (⟨putAll s.words [a] [77] [3], freeAll s.holds [a]⟩, ⟨id, 2, []⟩) := by
  have hb : burst (tryQ id a).addr (tryQ id a).many (tryQ id a).wrap = [a] := burst1 h0 h1
  have hz : ¬ wholeZ ms1 (burst (tryQ id a).addr (tryQ id a).many (tryQ id a).wrap) < 0 := by rw [hb, whole1 h0 h1]; omega
  rw [atmZ_may (ok1 hs hw (tryQ_ok hi h0 h1)), atmDo_swap hz (not_deny hb h0 h1) rfl hh, hb]
  rfl
theorem try_miss {s : Stt} {who id a : Int} (hs : stOkB s = true) (hw : inB who 0 2 = true) (hi : id = 0 ∨ id = 1) (h0 : 0 ≤ a) (h1 : a ≤ 63) (hh : getZ s.holds (atR who id) ≠ a) :
    atmZ ms1 s who (tryQ id a) = (s, ⟨id, 1, []⟩) := by
  have hb : burst (tryQ id a).addr (tryQ id a).many (tryQ id a).wrap = [a] := burst1 h0 h1
  have hz : ¬ wholeZ ms1 (burst (tryQ id a).addr (tryQ id a).many (tryQ id a).wrap) < 0 := by rw [hb, whole1 h0 h1]; omega
  rw [atmZ_may (ok1 hs hw (tryQ_ok hi h0 h1)), atmDo_miss hz (not_deny hb h0 h1) rfl hh]
  rfl
theorem wrt_eq {s : Stt} {who a l : Int} (hs : stOkB s = true) (hw : inB who 0 2 = true) (h0 : 0 ≤ a) (h1 : a ≤ 63) (l0 : 0 ≤ l) (l1 : l ≤ 3) :
    atmZ ms1 s who (wrtQ a l) = (⟨putAll s.words [a] [5] [l], freeAll s.holds [a]⟩, ⟨0, 1, []⟩) := by
  have hb : burst (wrtQ a l).addr (wrtQ a l).many (wrtQ a l).wrap = [a] := burst1 h0 h1
  have hz : ¬ wholeZ ms1 (burst (wrtQ a l).addr (wrtQ a l).many (wrtQ a l).wrap) < 0 := by rw [hb, whole1 h0 h1]; omega
  rw [atmZ_may (ok1 hs hw (wrtQ_ok h0 h1 l0 l1)), atmDo_write hz (not_deny hb h0 h1) rfl, hb]
  rfl
theorem next1 {s zs : Stt} {zr : Rsp} {who : Int} {r : Req} (hs : stOkB s = true) (hw : inB who 0 2 = true) (hr : reqOkB r = true) (h : atmZ ms1 s who r = (zs, zr)) : stOkB zs = true := by
  have hk := ok1 hs hw hr
  rw [atmZ_may hk] at h
  have := atmDo_ok hk
  rw [h] at this
  exact this
theorem getZ_lt {l : List Int} {i : Int} (h0 : 0 ≤ i) (h1 : i < l.length) (A : List Int) : getZ (freeAll l A) i = free1 A (getZ l i) := by
  obtain ⟨hi, e⟩ := getZ_gets h0 h1
  obtain ⟨hi', e'⟩ := getZ_gets (ws := freeAll l A) h0 (by rw [freeAll_len]; exact h1)
  rw [e, e']
  simp [freeAll]
theorem put77 (o : Int) (h : 0 ≤ o ∧ o ≤ 65535) : wrdPutZ o 77 3 = 77 := by
  rw [wrdPut_ok ((wrdB_iff o).2 h) (by decide) (by decide)]
  simp [putW]

/-- FnAtmTry -/
theorem try_all {s xs ys zs us : Stt} {xr yr zr ur tr vr ar : Rsp} {ts vs gs : Stt} {who oth id a ad l : Int} (hs : stOkB s = true) (hw : inB who 0 2 = true) (ho : inB oth 0 2 = true) (hi : id = 0 ∨ id = 1) (h0 : 0 ≤ a) (h1 : a ≤ 63) (d0 : 0 ≤ ad) (d1 : ad ≤ 63) (hne : ad ≠ a) (l0 : 0 ≤ l) (l1 : l ≤ 3)
    (e1 : atmZ ms1 s who (holdQ id a) = (xs, xr)) (e2 : atmZ ms1 xs who (tryQ id a) = (ys, yr)) (e3 : atmZ ms1 xs oth (wrtQ a l) = (zs, zr)) (e4 : atmZ ms1 zs who (tryQ id a) = (ts, tr)) (e5 : atmZ ms1 xs oth (wrtQ ad 3) = (us, ur)) (e6 : atmZ ms1 us who (tryQ id a) = (vs, vr)) (e7 : atmZ ms1 ys who (tryQ id a) = (gs, ar)) :
    yr.code = 2 ∧ (∃ h : a.toNat < ys.words.length, ys.words[a.toNat] = 77) ∧ tr.code = 1 ∧ vr.code = 2 ∧ ar.code = 1 := by
  have hx := next1 hs hw (holdQ_ok hi h0 h1) e1
  have hy := next1 hx hw (tryQ_ok hi h0 h1) e2
  have hz := next1 hx ho (wrtQ_ok h0 h1 l0 l1) e3
  have hu := next1 hx ho (wrtQ_ok d0 d1 (show (0 : Int) ≤ 3 by omega) (by omega)) e5
  have hlen := ((stOk_iff s).1 hs).2.1
  have hlx := ((stOk_iff xs).1 hx).2.1
  have hwx := ((stOk_iff xs).1 hx).1
  have w0 : 0 ≤ who ∧ who ≤ 2 := by simpa [inB] using hw
  have r0 : 0 ≤ atR who id := by unfold atR; omega
  have r6 : atR who id < 6 := by unfold atR; omega
  rw [hold_eq hs hw hi h0 h1] at e1
  injection e1 with e1 _
  have gx : getZ xs.holds (atR who id) = a := by
    rw [← e1]
    simp only
    rw [getZ_set s.holds a r0 r0 (by omega), if_pos rfl]
  rw [try_hit hx hw hi h0 h1 gx] at e2
  injection e2 with e2 e2'
  rw [wrt_eq hx ho h0 h1 l0 l1] at e3
  injection e3 with e3 _
  rw [wrt_eq hx ho d0 d1 (show (0 : Int) ≤ 3 by omega) (by omega)] at e5
  injection e5 with e5 _
  have gz : getZ zs.holds (atR who id) = -1 := by
    rw [← e3]; simp only; rw [getZ_lt r0 (by omega), gx]; simp [free1]
  have gy : getZ ys.holds (atR who id) = -1 := by
    rw [← e2]; simp only; rw [getZ_lt r0 (by omega), gx]; simp [free1]
  have gu : getZ us.holds (atR who id) = a := by
    rw [← e5]; simp only; rw [getZ_lt r0 (by omega), gx]; simp [free1]; exact fun e => absurd e.symm hne
  rw [try_miss hz hw hi h0 h1 (by rw [gz]; omega)] at e4
  rw [try_hit hu hw hi h0 h1 gu] at e6
  rw [try_miss hy hw hi h0 h1 (by rw [gy]; omega)] at e7
  injection e4 with _ e4
  injection e6 with _ e6
  injection e7 with _ e7
  refine ⟨by rw [← e2'], ?_, by rw [← e4], by rw [← e6], by rw [← e7]⟩
  have hl : a.toNat < ys.words.length := by rw [← e2]; simp only; rw [putAll_len]; omega
  refine ⟨hl, ?_⟩
  have hg := putAll_in (ws := xs.words) (all := [a]) (data := [77]) (lanes := [3]) (fun x hx => by simp at hx; subst hx; exact ⟨h0, h1⟩) hwx.1 (by simp) (i := 0) (by simp)
  simp only [List.getElem_cons_zero, List.getD_cons_zero] at hg
  obtain ⟨_, e⟩ := getZ_gets (ws := ys.words) h0 (by omega)
  rw [← e, ← e2]
  simp only
  rw [hg]
  exact put77 _ (by rw [show getZ xs.words a = xs.words[a.toNat]'(by omega) from (getZ_gets h0 (by omega)).2]; exact hwx.2 _ (List.getElem_mem _))

end Go.Proofs.Ytpbkpfdbdfnlbaa
