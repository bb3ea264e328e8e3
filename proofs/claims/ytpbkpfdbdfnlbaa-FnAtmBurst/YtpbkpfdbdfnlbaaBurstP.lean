/-
  A burst, word by word: the plain part, and one word of what is asked.
-/
import Derived.Test.YtpbkpfdbdfnlbaaTryP
import Derived.Test.YtpbkpfdbdfnlbaaRunLM
namespace Go.Proofs.Ytpbkpfdbdfnlbaa
open Go.RowKit
set_option linter.unusedSimpArgs false
set_option linter.unusedVariables false

def oneR (r : Req) (a : Int) (k : Nat) : Req := ⟨r.id, r.kind, a, 1, false, if r.kind = 2 then [r.data.getD k 0] else [], if r.kind = 2 then [r.lanes.getD k 0] else []⟩
def bSt (s : Stt) (r : Req) (A : List Int) (k : Nat) : Stt := if r.kind = 2 then ⟨putN s.words A r.data r.lanes k, freeAll s.holds (A.take k)⟩ else s
def bWs (s : Stt) (r : Req) (A : List Int) (k : Nat) : List Int := if r.kind = 2 then [] else getAll s.words (A.take k)

theorem whole_one {ms : List Rng} {A : List Int} (hz : ¬ wholeZ ms A < 0) {k : Nat} (hk : k < A.length) : wholeZ ms [A[k]] = wholeZ ms A := by
  cases A with
  | nil => simp at hk
  | cons a l =>
    simp only [wholeZ] at hz ⊢
    by_cases hall : (l.all fun x => findAt ms x 0 == findAt ms a 0) = true
    · rw [if_pos hall] at hz ⊢
      have : findAt ms (a :: l)[k] 0 = findAt ms a 0 := by
        cases k with
        | zero => rfl
        | succ k =>
          have hk' : k < l.length := by simpa using hk
          have := List.all_eq_true.1 hall l[k] (List.getElem_mem hk')
          simpa using this
      simp [this]
    · rw [if_neg hall] at hz; omega
theorem freeS {hs L : List Int} {a : Int} (ha : 0 ≤ a) : freeAll (freeAll hs L) [a] = freeAll hs (L ++ [a]) := by
  simp only [freeAll, List.map_map]
  apply List.map_congr_left
  intro h _
  simp only [Function.comp, free1, List.mem_append, List.mem_singleton]
  by_cases h1 : h ∈ L
  · simp [h1]
  · by_cases h2 : h = a
    · subst h2; simp [h1]
    · simp [h1, h2]
theorem takeS {A : List Int} {k : Nat} (hk : k < A.length) : A.take (k + 1) = A.take k ++ [A[k]] := by rw [List.take_add_one]; simp [hk]
theorem putN_one {ws A data lanes : List Int} {k : Nat} (hk : k < A.length) : putAll (putN ws A data lanes k) [A[k]] [data.getD k 0] [lanes.getD k 0] = putN ws A data lanes (k + 1) := by
  simp only [putAll, List.length_singleton, putN, List.getD_cons_zero]
  congr 1
  simp [hk]
theorem one_ok {r : Req} {a : Int} {k : Nat} (h : reqOkB r = true) (hk : r.kind = 1 ∨ r.kind = 2) (ha : 0 ≤ a ∧ a ≤ 63) (hl : (k : Int) < r.many) : reqOkB (oneR r a k) = true := by
  obtain ⟨q1, q2, q3⟩ := req_parts h
  have had := adr1 ha.1 ha.2
  rcases hk with hk | hk
  · rcases q1 with e | e <;> simp [oneR, reqOkB, reqHeadB, reqOneB, writesB, reqNoneB, inB, had, hk, e]
  · obtain ⟨w1, w2, w3, w4⟩ := reqOk_words h (.inl hk)
    have hd : k < r.data.length := by omega
    have hn : k < r.lanes.length := by omega
    have d1 := (allIn_iff _ _ _).1 w3 _ (getD_mem hd)
    have l1 := (allIn_iff _ _ _).1 w4 _ (getD_mem hn)
    rcases q1 with e | e <;> simp [oneR, reqOkB, reqHeadB, reqOneB, writesB, reqWordsB, inB, had, hk, e, allIn] <;> simp at d1 l1 <;> omega

theorem burst_code {ms : List Rng} {s : Stt} {who : Int} {r : Req} (hc : (atmDo ms s who r).2.code = 1) : ¬ wholeZ ms (burst r.addr r.many r.wrap) < 0 ∧ ¬ (writesB r && onlyAt ms (wholeZ ms (burst r.addr r.many r.wrap))) = true := by
  by_cases hz : wholeZ ms (burst r.addr r.many r.wrap) < 0
  · rw [atmDo_none hz] at hc; simp at hc
  refine ⟨hz, fun hw => ?_⟩
  rw [atmDo_deny hz hw] at hc; simp at hc

theorem burst_step {ms : List Rng} {s : Stt} {who : Int} {r : Req} {A : List Int} (hA : A = burst r.addr r.many r.wrap) (hok : atmOkB ms s who r = true) (hc : (atmDo ms s who r).2.code = 1) (hk : r.kind = 1 ∨ r.kind = 2) {k : Nat} (hl : k < A.length) (hst : stOkB (bSt s r A k) = true) :
    atmOkB ms (bSt s r A k) who (oneR r A[k] k) = true ∧ ∃ dk, atmDo ms (bSt s r A k) who (oneR r A[k] k) = (bSt s r A (k + 1), ⟨r.id, 1, dk⟩) ∧ bWs s r A (k + 1) = bWs s r A k ++ dk ∧ dk.length ≤ 1 := by
  obtain ⟨hz, hw⟩ := burst_code hc
  obtain ⟨a1, a2, a3, a4⟩ := atmOk_and hok
  have hin := burst_in A[k] (by rw [← hA]; exact List.getElem_mem hl)
  have hln := burst_ln (req_parts a4).2.1
  rw [← hA] at hz hw hln
  have ho := one_ok (k := k) a4 hk hin (by omega)
  have hok' : atmOkB ms (bSt s r A k) who (oneR r A[k] k) = true := by simp [atmOkB, a1, hst, a3, ho]
  have hb : burst (oneR r A[k] k).addr (oneR r A[k] k).many (oneR r A[k] k).wrap = [A[k]] := burst1 hin.1 hin.2
  have hw1 := whole_one hz hl
  have hz' : ¬ wholeZ ms (burst (oneR r A[k] k).addr (oneR r A[k] k).many (oneR r A[k] k).wrap) < 0 := by rw [hb, hw1]; exact hz
  refine ⟨hok', ?_⟩
  rcases hk with hk | hk
  · refine ⟨[getZ s.words A[k]], ?_, ?_, by simp⟩
    · rw [atmDo_read hz' hk, hb]
      simp [bSt, hk, oneR, getAll]
    · have e : ¬ r.kind = 2 := by omega
      simp only [bWs, if_neg e]
      rw [takeS hl]
      simp only [getAll, List.map_append, List.map_cons, List.map_nil]
  · have hw' : ¬ (writesB (oneR r A[k] k) && onlyAt ms (wholeZ ms (burst (oneR r A[k] k).addr (oneR r A[k] k).many (oneR r A[k] k).wrap))) = true := by
      rw [hb, hw1]
      have e : writesB (oneR r A[k] k) = writesB r := rfl
      rw [e]; exact hw
    refine ⟨[], ?_, by simp [bWs, hk], by simp⟩
    rw [atmDo_write hz' hw' hk, hb]
    simp only [bSt, hk, oneR, if_true]
    rw [putN_one hl, freeS hin.1, takeS hl]
theorem burst_end {ms : List Rng} {s : Stt} {who : Int} {r : Req} {A : List Int} (hA : A = burst r.addr r.many r.wrap) (hc : (atmDo ms s who r).2.code = 1) (hk : r.kind = 1 ∨ r.kind = 2) : bSt s r A A.length = (atmDo ms s who r).1 ∧ bWs s r A A.length = (atmDo ms s who r).2.data := by
  obtain ⟨hz, hw⟩ := burst_code hc
  rcases hk with hk | hk
  · rw [atmDo_read hz hk, ← hA]; simp [bSt, bWs, hk]
  · rw [atmDo_write hz hw hk, ← hA]; simp [bSt, bWs, hk, putAll]
theorem burst_zero {s : Stt} {r : Req} {A : List Int} (hs : True) : bSt s r A 0 = s ∧ bWs s r A 0 = [] := by
  constructor
  · unfold bSt
    by_cases hk : r.kind = 2
    · rw [if_pos hk]
      have : freeAll s.holds [] = s.holds := by
        unfold freeAll
        conv => rhs; rw [← List.map_id s.holds]
        apply List.map_congr_left
        intro h _
        simp [free1]
      simp [putN, this]
    · rw [if_neg hk]
  · simp [bWs, getAll]

/-- one word of what is asked, as a value of its own -/
def kOne (M : Nat) (q : Req) : World → Value → Prop := fun W v => ∃ qd dd ql ll, v = reqV q qd dd ql ll ∧ OwnN M W qd dd q.data ∧ OwnN M W ql ll q.lanes ∧ q.data.length ≤ dd ∧ dd ≤ 9223372036854775807 ∧ q.lanes.length ≤ ll ∧ ll ≤ 9223372036854775807
theorem kOne_gr {M : Nat} {q : Req} : ∀ w w' v, Gr w w' → kOne M q w v → kOne M q w' v := by
  rintro w w' v hg ⟨qd, dd, ql, ll, e, h1, h2, h⟩; exact ⟨qd, dd, ql, ll, e, h1.below hg, h2.below hg, h⟩
theorem kOne_kt {M : Nat} {q : Req} : ∀ (t : Nat) w w' v, t ≠ 3 → KT t w w' → kOne M q w v → kOne M q w' v := by
  rintro t w w' v ht hg ⟨qd, dd, ql, ll, e, h1, h2, h⟩; exact ⟨qd, dd, ql, ll, e, h1.kt hg ht, h2.kt hg ht, h⟩
theorem kOne_at {M : Nat} {q : Req} {W : World} {v : Value} (h : kOne M q W v) : ∃ qd dd ql ll, v = reqV q qd dd ql ll ∧ ReqAt W q qd dd ql ll := by
  obtain ⟨qd, dd, ql, ll, e, h1, h2, h3, h4, h5, h6⟩ := h
  exact ⟨qd, dd, ql, ll, e, h1.ints, h2.ints, h3, h4, h5, h6⟩

set_option maxRecDepth 100000 in
set_option maxHeartbeats 2000000 in
theorem crOne_any (r : Req) (pd pl : Option Addr) (cd cl : Nat) (a : Int) (k : Nat) (w : World) (h : ReqAt w r pd cd pl cl) (hd : r.kind = 2 → k < r.data.length ∧ k < r.lanes.length) :
    Calls Try.prog 17 #[reqV r pd cd pl cl, .int .i64 a, .int .i64 k] w fun e w' => (∃ v, e = .returned v ∧ kOne w.heap.size (oneR r a k) w' v) ∧ Below w.heap.size w w' := by
  have hk0 : (0 : Int) ≤ (k : Int) := by omega
  have HR := Hid.intro h
  clear h
  unfold reqV
  by_cases hk : r.kind = 2
  · obtain ⟨d1, d2⟩ := hd hk
    have e1 : (k : Int) < (r.data.length : Int) := by omega
    have e2 : (k : Int) < (r.lanes.length : Int) := by omega
    rcases HR.out.data with hx | ⟨b, off, rfl, hb, hcs⟩
    · rw [hx] at d1; simp at d1
    rcases HR.out.lanes with hx | ⟨b', off', rfl, hb', hcs'⟩
    · rw [hx] at d2; simp at d2
    have c1 := hcs k d1
    have c2 := hcs' k d2
    have g1 : r.data.getD k 0 = r.data[k] := by rw [List.getD_eq_getElem?_getD, List.getElem?_eq_getElem d1]; rfl
    have g2 : r.lanes.getD k 0 = r.lanes[k] := by rw [List.getD_eq_getElem?_getD, List.getElem?_eq_getElem d2]; rfl
    have HG := Hid.intro (And.intro g1 g2)
    have HK := Hid.intro hk
    generalize r.data[k] = x at c1 HG
    generalize r.lanes[k] = y at c2 HG
    rw [hk]
    have m1 : b < w.heap.size + 1 := by omega
    have m2 : b < w.heap.size + 1 + 1 := by omega
    have m3 : b < w.heap.size + 1 + 1 + 1 := by omega
    have m4 : b < w.heap.size + 1 + 1 + 1 + 1 := by omega
    have n1 : b' < w.heap.size + 1 := by omega
    have n2 : b' < w.heap.size + 1 + 1 := by omega
    have n3 : b' < w.heap.size + 1 + 1 + 1 := by omega
    have n4 : b' < w.heap.size + 1 + 1 + 1 + 1 := by omega
    clear hcs hcs' g1 g2 hk hd d1 d2
    go_enter Try.func17, Try.ntmps17
    go_wp2
    refine bodyPost_ret (v := .agg #[.int .i64 r.id, .int .i64 2, .int .i64 a, .int .i64 1, .bool false, .slice (some ⟨w.heap.size + 1 + 1 + 1, 0, none⟩) 1 1, .slice (some ⟨w.heap.size + 1 + 1 + 1 + 1, 0, none⟩) 1 1]) (by simp [results, Try.results17, go_sem]) rfl ?_
    have hk := HK.out
    have ed : (oneR r a k).data = [x] := by simp only [oneR, if_pos hk]; rw [HG.out.1]
    have el : (oneR r a k).lanes = [y] := by simp only [oneR, if_pos hk]; rw [HG.out.2]
    refine ⟨⟨_, rfl, some ⟨w.heap.size + 1 + 1 + 1, 0, none⟩, 1, some ⟨w.heap.size + 1 + 1 + 1 + 1, 0, none⟩, 1, ?_, .inr ⟨_, rfl, by omega, ?_⟩, .inr ⟨_, rfl, by omega, ?_⟩, by simp [ed], by omega, by simp [el], by omega⟩, ?_⟩
    · simp only [reqV, ed, el]; simp [oneR, hk]
    · rw [ed]; exact ⟨#[.int .i64 x], (Below.heap_alloc _ _ _ (by simp)).trans (nw_at _ (by simp)), rfl, Nat.le_refl _, rfl, rfl⟩
    · rw [el]; exact ⟨#[.int .i64 y], nw_at _ (by simp), rfl, Nat.le_refl _, rfl, rfl⟩
    · exact (((((Below.refl _ w).alloc (Nat.le_refl _) _).alloc (by simp) _).alloc (by simp <;> omega) _).alloc (by simp <;> omega) _).alloc (by simp <;> omega) _
  · have hkb : (r.kind == 2) = false := by simpa using hk
    have HK := Hid.intro hk
    clear hk hd
    go_enter Try.func17, Try.ntmps17
    go_wp2
    refine bodyPost_ret (v := .agg #[.int .i64 r.id, .int .i64 r.kind, .int .i64 a, .int .i64 1, .bool false, .slice none 0 0, .slice none 0 0]) (by simp [results, Try.results17, go_sem]) rfl ?_
    have hk := HK.out
    have ed : (oneR r a k).data = [] := by simp [oneR, hk]
    have el : (oneR r a k).lanes = [] := by simp [oneR, hk]
    refine ⟨⟨_, rfl, none, 0, none, 0, ?_, .inl ed, .inl el, by simp [ed], by omega, by simp [el], by omega⟩, ?_⟩
    · simp only [reqV, ed, el]; simp [oneR]
    · exact (((Below.refl _ w).alloc (Nat.le_refl _) _).alloc (by simp) _).alloc (by simp <;> omega) _

end Go.Proofs.Ytpbkpfdbdfnlbaa
