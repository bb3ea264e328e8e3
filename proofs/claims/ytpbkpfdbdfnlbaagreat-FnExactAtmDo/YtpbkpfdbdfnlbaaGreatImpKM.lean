/-
  AtmDo of the program.
-/
import Derived.Test.YtpbkpfdbdfnlbaaGreatImpHM
import Derived.Test.YtpbkpfdbdfnlbaaGreatImplUM
import Derived.Test.YtpbkpfdbdfnlbaaGreatPairWM
/-
  What one asks, shown to the program's visitor; do, and AtmDo of the program.
-/
namespace Go.Proofs.YtpbkpfdbdfnlbaaGreat
open Go.RowKit
set_option linter.unusedSimpArgs false
set_option linter.unusedVariables false

/-- what comes of something in a range that answers it -/
def turnZ (s : Stt) (who : Int) (only : Bool) (r : Req) : Stt × Int × List Int :=
  if r.kind = 1 then (s, 1, getAll s.words (burst r.addr r.many r.wrap))
  else if r.kind = 3 then (⟨s.words, s.holds.set (atR who r.id).toNat r.addr⟩, 2, getAll s.words (burst r.addr r.many r.wrap))
  else if only = true then (s, 3, [])
  else if r.kind = 4 then (if getZ s.holds (atR who r.id) = r.addr then (⟨putAll s.words (burst r.addr r.many r.wrap) r.data r.lanes, freeAll s.holds (burst r.addr r.many r.wrap)⟩, 2, []) else (s, 1, []))
  else (⟨putAll s.words (burst r.addr r.many r.wrap) r.data r.lanes, freeAll s.holds (burst r.addr r.many r.wrap)⟩, 1, [])
/-- how a turn, and its desk, stand behind it -/
def TurnOut (w : World) (D H TB : Nat) (who nm : Int) (only : Bool) (z : Stt × Int × List Int) (w' : World) : Prop :=
  ∃ p c, w'.heap[TB]? = some (.cells (turnC D who nm only z.2.1 (.slice p z.2.2.length c)) 118 (0, 0)) ∧ OwnN w.heap.size w' p c z.2.2 ∧ z.2.2.length ≤ c ∧ c ≤ 9223372036854775807 ∧ Desk w' D H z.1 ∧ Kept (fun k => k = TB ∨ k = D ∨ k = H) w w'

theorem sees_read (w0 : World) (D H TB : Nat) (s : Stt) (who : Int) (only : Bool) (r : Req) (pd pl : Option Addr) (cd cl : Nat) (w : World) (h : Desk w D H s) (hT : w.heap[TB]? = some (.cells (turnC D who r.id only 0 (.slice none 0 0)) 118 (0, 0))) (hTD : TB ≠ D) (hTH : TB ≠ H) (hbw : Below w0.heap.size w0 w) (hr : ReqAt w0 r pd cd pl cl) (hMD : w0.heap.size ≤ D) (hMH : w0.heap.size ≤ H) (hMT : w0.heap.size ≤ TB) (hok : reqOkB r = true) (hwho : 0 ≤ who ∧ who ≤ 2) (hk : r.kind = 1) :
    Calls Tryz.prog 126 #[.pointer (some ⟨TB, 0, none⟩), reqV r pd cd pl cl] w fun e w' => (∃ v, e = .returned v) ∧ TurnOut w D H TB who r.id only (turnZ s who only r) w' := by
  refine (turn_read D H TB s who r.id only r pd pl cd cl w h hT hTD hTH (req_adr hok)).mono ?_
  rintro e w' ⟨hv, ⟨g, c, h1, h2, h3, h4, h5⟩, h6, h7⟩
  unfold TurnOut turnZ
  rw [if_pos hk]
  exact ⟨hv, some ⟨g, 0, none⟩, c, h1, .inr ⟨g, rfl, h5, h2⟩, h3, h4, h6, h7.mono (fun k e => .inl e)⟩

set_option maxRecDepth 100000 in
set_option maxHeartbeats 1000000 in
theorem shown_read (w0 : World) (D H TB : Nat) (s : Stt) (who : Int) (only : Bool) (r : Req) (pd pl : Option Addr) (cd cl : Nat) (w : World) (h : Desk w D H s) (hT : w.heap[TB]? = some (.cells (turnC D who r.id only 0 (.slice none 0 0)) 118 (0, 0))) (hTD : TB ≠ D) (hTH : TB ≠ H) (hbw : Below w0.heap.size w0 w) (hr : ReqAt w0 r pd cd pl cl) (hMD : w0.heap.size ≤ D) (hMH : w0.heap.size ≤ H) (hMT : w0.heap.size ≤ TB) (hok : reqOkB r = true) (hwho : 0 ≤ who ∧ who ≤ 2) (hk : r.kind = 1) :
    Calls Tryz.prog 114 #[reqV r pd cd pl cl, .iface 119 (.pointer (some ⟨TB, 0, none⟩))] w fun e w' => (∃ v, e = .returned v) ∧ TurnOut w D H TB who r.id only (turnZ s who only r) w' := by
  have hbl : ∀ o, Below w.heap.size w (w.alloc o) := fun o => (Below.refl _ w).alloc (Nat.le_refl _) o
  have hlt := heap_lt hT
  have HC := Hid.intro (fun o => sees_read w0 D H TB s who only r pd pl cd cl (w.alloc o) (h.gr (hbl o)) ((Below.heap_alloc _ _ _ hlt).trans hT) hTD hTH (hbw.trans ((hbl o).mono hbw.size)) hr hMD hMH hMT hok hwho hk)
  clear h hT hr hbw hk hok
  generalize turnZ s who only r = z at HC ⊢
  unfold reqV at HC ⊢
  go_enter Tryz.func114, Tryz.ntmps114
  go_wp2_with fail
  refine (HC.out _).mono ?_
  rintro e w1 ⟨⟨v, rfl⟩, p, c, h1, h2, h3, h4, h5, h6⟩
  have HP : Hid (TurnOut w D H TB who r.id only z w1) := Hid.intro ⟨p, c, h1, h2.mono (hbl _).size, h3, h4, h5, (Kept.of_below (hbl _)).trans h6⟩
  clear h1 h2 h3 h4 h5 h6 HC
  go_wp2
  go_returns
  exact ⟨⟨_, rfl⟩, HP.out⟩

theorem sees_write (w0 : World) (D H TB : Nat) (s : Stt) (who : Int) (only : Bool) (r : Req) (pd pl : Option Addr) (cd cl : Nat) (w : World) (h : Desk w D H s) (hT : w.heap[TB]? = some (.cells (turnC D who r.id only 0 (.slice none 0 0)) 118 (0, 0))) (hTD : TB ≠ D) (hTH : TB ≠ H) (hbw : Below w0.heap.size w0 w) (hr : ReqAt w0 r pd cd pl cl) (hMD : w0.heap.size ≤ D) (hMH : w0.heap.size ≤ H) (hMT : w0.heap.size ≤ TB) (hok : reqOkB r = true) (hwho : 0 ≤ who ∧ who ≤ 2) (hk : r.kind = 2) :
    Calls Tryz.prog 128 #[.pointer (some ⟨TB, 0, none⟩), reqV r pd cd pl cl] w fun e w' => (∃ v, e = .returned v) ∧ TurnOut w D H TB who r.id only (turnZ s who only r) w' := by
  obtain ⟨w1, w2, _, _⟩ := reqOk_words hok (.inl hk)
  refine (turn_write w0 D H TB s who r.id only r pd pl cd cl w h hT hTD hTH hbw hr hMD hMH hMT (req_adr hok) w1 w2).mono ?_
  rintro e w' ⟨hv, h1, h2, h3⟩
  unfold TurnOut turnZ
  rw [if_neg (by omega), if_neg (by omega)]
  cases only
  · simp only [Bool.false_eq_true, if_false] at h1 h2 ⊢
    rw [if_neg (by omega)]
    exact ⟨hv, none, 0, h1, .inl rfl, Nat.le_refl _, by omega, h2, h3⟩
  · simp only [if_true] at h1 h2 ⊢
    exact ⟨hv, none, 0, h1, .inl rfl, Nat.le_refl _, by omega, h2, h3⟩

set_option maxRecDepth 100000 in
set_option maxHeartbeats 1000000 in
theorem shown_write (w0 : World) (D H TB : Nat) (s : Stt) (who : Int) (only : Bool) (r : Req) (pd pl : Option Addr) (cd cl : Nat) (w : World) (h : Desk w D H s) (hT : w.heap[TB]? = some (.cells (turnC D who r.id only 0 (.slice none 0 0)) 118 (0, 0))) (hTD : TB ≠ D) (hTH : TB ≠ H) (hbw : Below w0.heap.size w0 w) (hr : ReqAt w0 r pd cd pl cl) (hMD : w0.heap.size ≤ D) (hMH : w0.heap.size ≤ H) (hMT : w0.heap.size ≤ TB) (hok : reqOkB r = true) (hwho : 0 ≤ who ∧ who ≤ 2) (hk : r.kind = 2) :
    Calls Tryz.prog 115 #[reqV r pd cd pl cl, .iface 119 (.pointer (some ⟨TB, 0, none⟩))] w fun e w' => (∃ v, e = .returned v) ∧ TurnOut w D H TB who r.id only (turnZ s who only r) w' := by
  have hbl : ∀ o, Below w.heap.size w (w.alloc o) := fun o => (Below.refl _ w).alloc (Nat.le_refl _) o
  have hlt := heap_lt hT
  have HC := Hid.intro (fun o => sees_write w0 D H TB s who only r pd pl cd cl (w.alloc o) (h.gr (hbl o)) ((Below.heap_alloc _ _ _ hlt).trans hT) hTD hTH (hbw.trans ((hbl o).mono hbw.size)) hr hMD hMH hMT hok hwho hk)
  clear h hT hr hbw hk hok
  generalize turnZ s who only r = z at HC ⊢
  unfold reqV at HC ⊢
  go_enter Tryz.func115, Tryz.ntmps115
  go_wp2_with fail
  refine (HC.out _).mono ?_
  rintro e w1 ⟨⟨v, rfl⟩, p, c, h1, h2, h3, h4, h5, h6⟩
  have HP : Hid (TurnOut w D H TB who r.id only z w1) := Hid.intro ⟨p, c, h1, h2.mono (hbl _).size, h3, h4, h5, (Kept.of_below (hbl _)).trans h6⟩
  clear h1 h2 h3 h4 h5 h6 HC
  go_wp2
  go_returns
  exact ⟨⟨_, rfl⟩, HP.out⟩

theorem sees_hold (w0 : World) (D H TB : Nat) (s : Stt) (who : Int) (only : Bool) (r : Req) (pd pl : Option Addr) (cd cl : Nat) (w : World) (h : Desk w D H s) (hT : w.heap[TB]? = some (.cells (turnC D who r.id only 0 (.slice none 0 0)) 118 (0, 0))) (hTD : TB ≠ D) (hTH : TB ≠ H) (hbw : Below w0.heap.size w0 w) (hr : ReqAt w0 r pd cd pl cl) (hMD : w0.heap.size ≤ D) (hMH : w0.heap.size ≤ H) (hMT : w0.heap.size ≤ TB) (hok : reqOkB r = true) (hwho : 0 ≤ who ∧ who ≤ 2) (hk : r.kind = 3) :
    Calls Tryz.prog 113 #[.pointer (some ⟨TB, 0, none⟩), reqV r pd cd pl cl] w fun e w' => (∃ v, e = .returned v) ∧ TurnOut w D H TB who r.id only (turnZ s who only r) w' := by
  refine (turn_hold D H TB s who r.id only r pd pl cd cl w h hT hTD hTH (req_adr hok) hwho (req_parts hok).1).mono ?_
  rintro e w' ⟨hv, ⟨g, c, h1, h2, h3, h4, h5⟩, h6, h7⟩
  unfold TurnOut turnZ
  rw [if_neg (by omega), if_pos hk]
  exact ⟨hv, some ⟨g, 0, none⟩, c, h1, .inr ⟨g, rfl, h5, h2⟩, h3, h4, h6, h7.mono (fun k e => by omega)⟩

set_option maxRecDepth 100000 in
set_option maxHeartbeats 1000000 in
theorem shown_hold (w0 : World) (D H TB : Nat) (s : Stt) (who : Int) (only : Bool) (r : Req) (pd pl : Option Addr) (cd cl : Nat) (w : World) (h : Desk w D H s) (hT : w.heap[TB]? = some (.cells (turnC D who r.id only 0 (.slice none 0 0)) 118 (0, 0))) (hTD : TB ≠ D) (hTH : TB ≠ H) (hbw : Below w0.heap.size w0 w) (hr : ReqAt w0 r pd cd pl cl) (hMD : w0.heap.size ≤ D) (hMH : w0.heap.size ≤ H) (hMT : w0.heap.size ≤ TB) (hok : reqOkB r = true) (hwho : 0 ≤ who ∧ who ≤ 2) (hk : r.kind = 3) :
    Calls Tryz.prog 116 #[reqV r pd cd pl cl, .iface 119 (.pointer (some ⟨TB, 0, none⟩))] w fun e w' => (∃ v, e = .returned v) ∧ TurnOut w D H TB who r.id only (turnZ s who only r) w' := by
  have hbl : ∀ o, Below w.heap.size w (w.alloc o) := fun o => (Below.refl _ w).alloc (Nat.le_refl _) o
  have hlt := heap_lt hT
  have HC := Hid.intro (fun o => sees_hold w0 D H TB s who only r pd pl cd cl (w.alloc o) (h.gr (hbl o)) ((Below.heap_alloc _ _ _ hlt).trans hT) hTD hTH (hbw.trans ((hbl o).mono hbw.size)) hr hMD hMH hMT hok hwho hk)
  clear h hT hr hbw hk hok
  generalize turnZ s who only r = z at HC ⊢
  unfold reqV at HC ⊢
  go_enter Tryz.func116, Tryz.ntmps116
  go_wp2_with fail
  refine (HC.out _).mono ?_
  rintro e w1 ⟨⟨v, rfl⟩, p, c, h1, h2, h3, h4, h5, h6⟩
  have HP : Hid (TurnOut w D H TB who r.id only z w1) := Hid.intro ⟨p, c, h1, h2.mono (hbl _).size, h3, h4, h5, (Kept.of_below (hbl _)).trans h6⟩
  clear h1 h2 h3 h4 h5 h6 HC
  go_wp2
  go_returns
  exact ⟨⟨_, rfl⟩, HP.out⟩

theorem sees_try (w0 : World) (D H TB : Nat) (s : Stt) (who : Int) (only : Bool) (r : Req) (pd pl : Option Addr) (cd cl : Nat) (w : World) (h : Desk w D H s) (hT : w.heap[TB]? = some (.cells (turnC D who r.id only 0 (.slice none 0 0)) 118 (0, 0))) (hTD : TB ≠ D) (hTH : TB ≠ H) (hbw : Below w0.heap.size w0 w) (hr : ReqAt w0 r pd cd pl cl) (hMD : w0.heap.size ≤ D) (hMH : w0.heap.size ≤ H) (hMT : w0.heap.size ≤ TB) (hok : reqOkB r = true) (hwho : 0 ≤ who ∧ who ≤ 2) (hk : r.kind = 4) :
    Calls Tryz.prog 127 #[.pointer (some ⟨TB, 0, none⟩), reqV r pd cd pl cl] w fun e w' => (∃ v, e = .returned v) ∧ TurnOut w D H TB who r.id only (turnZ s who only r) w' := by
  obtain ⟨w1, w2, _, _⟩ := reqOk_words hok (.inr hk)
  refine (turn_try w0 D H TB s who r.id only r pd pl cd cl w h hT hTD hTH hbw hr hMD hMH hMT (req_adr hok) w1 w2 hwho (req_parts hok).1).mono ?_
  rintro e w' ⟨hv, h1, h2, h3⟩
  unfold TurnOut turnZ
  rw [if_neg (by omega), if_neg (by omega)]
  cases only
  · simp only [Bool.false_eq_true, if_false] at h1 h2 ⊢
    rw [if_pos hk]
    by_cases hh : getZ s.holds (atR who r.id) = r.addr
    · rw [if_pos hh] at h1 h2 ⊢
      exact ⟨hv, none, 0, h1, .inl rfl, Nat.le_refl _, by omega, h2, h3⟩
    · rw [if_neg hh] at h1 h2 ⊢
      exact ⟨hv, none, 0, h1, .inl rfl, Nat.le_refl _, by omega, h2, h3⟩
  · simp only [if_true] at h1 h2 ⊢
    exact ⟨hv, none, 0, h1, .inl rfl, Nat.le_refl _, by omega, h2, h3⟩

set_option maxRecDepth 100000 in
set_option maxHeartbeats 1000000 in
theorem shown_try (w0 : World) (D H TB : Nat) (s : Stt) (who : Int) (only : Bool) (r : Req) (pd pl : Option Addr) (cd cl : Nat) (w : World) (h : Desk w D H s) (hT : w.heap[TB]? = some (.cells (turnC D who r.id only 0 (.slice none 0 0)) 118 (0, 0))) (hTD : TB ≠ D) (hTH : TB ≠ H) (hbw : Below w0.heap.size w0 w) (hr : ReqAt w0 r pd cd pl cl) (hMD : w0.heap.size ≤ D) (hMH : w0.heap.size ≤ H) (hMT : w0.heap.size ≤ TB) (hok : reqOkB r = true) (hwho : 0 ≤ who ∧ who ≤ 2) (hk : r.kind = 4) :
    Calls Tryz.prog 119 #[reqV r pd cd pl cl, .iface 119 (.pointer (some ⟨TB, 0, none⟩))] w fun e w' => (∃ v, e = .returned v) ∧ TurnOut w D H TB who r.id only (turnZ s who only r) w' := by
  have hbl : ∀ o, Below w.heap.size w (w.alloc o) := fun o => (Below.refl _ w).alloc (Nat.le_refl _) o
  have hlt := heap_lt hT
  have HC := Hid.intro (fun o => sees_try w0 D H TB s who only r pd pl cd cl (w.alloc o) (h.gr (hbl o)) ((Below.heap_alloc _ _ _ hlt).trans hT) hTD hTH (hbw.trans ((hbl o).mono hbw.size)) hr hMD hMH hMT hok hwho hk)
  clear h hT hr hbw hk hok
  generalize turnZ s who only r = z at HC ⊢
  unfold reqV at HC ⊢
  go_enter Tryz.func119, Tryz.ntmps119
  go_wp2_with fail
  refine (HC.out _).mono ?_
  rintro e w1 ⟨⟨v, rfl⟩, p, c, h1, h2, h3, h4, h5, h6⟩
  have HP : Hid (TurnOut w D H TB who r.id only z w1) := Hid.intro ⟨p, c, h1, h2.mono (hbl _).size, h3, h4, h5, (Kept.of_below (hbl _)).trans h6⟩
  clear h1 h2 h3 h4 h5 h6 HC
  go_wp2
  go_returns
  exact ⟨⟨_, rfl⟩, HP.out⟩

end Go.Proofs.YtpbkpfdbdfnlbaaGreat

/-
  do of the program's desk.
-/
namespace Go.Proofs.YtpbkpfdbdfnlbaaGreat
open Go.RowKit
set_option linter.unusedSimpArgs false
set_option linter.unusedVariables false

theorem set3 {w : World} {b : Nat} {o0 o1 o2 : Value} {t : TypeId} (h : w.heap[b]? = some (.cells #[o0, o1, o2] t (0, 0))) (v0 v1 v2 : Value) :
    (((w.setCell ⟨b, 0, none⟩ v0).setCell ⟨b, 1, none⟩ v1).setCell ⟨b, 2, none⟩ v2).heap[b]? = some (.cells #[v0, v1, v2] t (0, 0)) := (heap_set (heap_set (heap_set h 0 v0) 1 v1) 2 v2).trans rfl
theorem kept3 (D : Nat → Prop) (w : World) {b : Nat} (hb : D b) (v0 v1 v2 : Value) : Kept D w (((w.setCell ⟨b, 0, none⟩ v0).setCell ⟨b, 1, none⟩ v1).setCell ⟨b, 2, none⟩ v2) :=
  ((Kept.setCell (D := D) (p := ⟨b, 0, none⟩) _ hb _).trans (Kept.setCell (D := D) (p := ⟨b, 1, none⟩) _ hb _)).trans (Kept.setCell (D := D) (p := ⟨b, 2, none⟩) _ hb _)

set_option maxRecDepth 100000 in
set_option maxHeartbeats 1000000 in
theorem do_none (w0 : World) (a : Option Addr) (cap : Nat) (ms : List Rng) (D H : Nat) (s : Stt) (who : Int) (r : Req) (pd pl : Option Addr) (cd cl : Nat) (w : World) (hm : RowOf w0 a ms) (hc : ms.length ≤ cap) (hc' : cap ≤ 9223372036854775807) (h : Desk w D H s) (hbw : Below w0.heap.size w0 w) (hr : ReqAt w0 r pd cd pl cl) (hMD : w0.heap.size ≤ D) (hMH : w0.heap.size ≤ H) (hok : reqOkB r = true) (hwho : 0 ≤ who ∧ who ≤ 2) (hf : rgFirst ms (burst r.addr r.many r.wrap) = none) :
    Calls Tryz.prog 46 #[.pointer (some ⟨D, 0, none⟩), .slice a ms.length cap, .int .i64 who, reqV r pd cd pl cl] w fun e w' => e = .returned (rspV ⟨r.id, 4, []⟩ none 0) ∧ Desk w' D H s ∧ Kept (fun k => k = D ∨ k = H) w w' := by
  have hDl := h.ltD
  have hHl := h.ltH
  have hws := hbw.size
  have HG := Hid.intro (fun W h1 => reqRange_any a cap ms r pd pl cd cl W h1 hc hc' (req_adr hok))
  have HM := Hid.intro hm
  have HD := Hid.intro h
  have HBW := Hid.intro hbw
  have HRA := Hid.intro hr
  have HOK := Hid.intro hok
  have HF := Hid.intro hf
  clear hm h hbw hr hok hf
  unfold reqV at HG ⊢
  go_enter Tryz.func46, Tryz.ntmps46
  go_wp2_with fail
  obtain ⟨W0, hW0⟩ : ∃ W0, (w.alloc (.cells #[.int .i64 r.id, .int .i64 r.kind, .int .i64 r.addr, .int .i64 r.many, .bool r.wrap, .slice pd r.data.length cd, .slice pl r.lanes.length cl] 43)).alloc (.cells #[.int .i64 0, .int .i64 0, .slice none 0 0] 37) = W0 := ⟨_, rfl⟩
  have hb0 : Below w.heap.size w W0 := by rw [← hW0]; exact ((Below.refl _ w).alloc (Nat.le_refl _) _).alloc (by simp) _
  have hB0 : W0.heap[w.heap.size]? = some (.cells #[.int .i64 r.id, .int .i64 r.kind, .int .i64 r.addr, .int .i64 r.many, .bool r.wrap, .slice pd r.data.length cd, .slice pl r.lanes.length cl] 43 (0, 0)) := by rw [← hW0]; exact (Below.heap_alloc _ _ _ (by simp)).trans (nw_at _ rfl)
  have hR0 : W0.heap[w.heap.size + 1]? = some (.cells #[.int .i64 0, .int .i64 0, .slice none 0 0] 37 (0, 0)) := by rw [← hW0]; exact nw_at _ (by simp)
  have hbw0 := HBW.out.trans (hb0.mono hws)
  rw [hW0]
  clear hW0
  refine (HG.out W0 (HM.out.below hbw0)).mono ?_
  rintro e w1 ⟨rfl, hb1⟩
  have hB1 := (hb1.block _ (heap_lt hB0)).trans hB0
  have hR1 := (hb1.block _ (heap_lt hR0)).trans hR0
  have hb1' := hb0.trans (hb1.mono hb0.size)
  have hbw1 := hbw0.trans (hb1.mono hbw0.size)
  clear hb1 hb0 hB0 hR0 hbw0 HG
  unfold Rng.val
  rw [HF.out]
  simp only [Option.isSome_none]
  have q0 : w1.cell? ⟨w.heap.size, 0, none⟩ = some (.int .i64 r.id) := heap_cell hB1 0
  have q1 : w1.cell? ⟨w.heap.size, 1, none⟩ = some (.int .i64 r.kind) := heap_cell hB1 1
  have q2 : w1.cell? ⟨w.heap.size, 2, none⟩ = some (.int .i64 r.addr) := heap_cell hB1 2
  have q3 : w1.cell? ⟨w.heap.size, 3, none⟩ = some (.int .i64 r.many) := heap_cell hB1 3
  have q4 : w1.cell? ⟨w.heap.size, 4, none⟩ = some (.bool r.wrap) := heap_cell hB1 4
  have q5 : w1.cell? ⟨w.heap.size, 5, none⟩ = some (.slice pd r.data.length cd) := heap_cell hB1 5
  have q6 : w1.cell? ⟨w.heap.size, 6, none⟩ = some (.slice pl r.lanes.length cl) := heap_cell hB1 6
  have r0 : w1.cell? ⟨w.heap.size + 1, 0, none⟩ = some (.int .i64 0) := heap_cell hR1 0
  have r1 : w1.cell? ⟨w.heap.size + 1, 1, none⟩ = some (.int .i64 0) := heap_cell hR1 1
  have r2 : w1.cell? ⟨w.heap.size + 1, 2, none⟩ = some (.slice none 0 0) := heap_cell hR1 2
  have f0 := heap_free hR1 0
  have f1 := heap_free hR1 1
  have f2 := heap_free hR1 2
  have hRl := heap_lt hR1
  have hBl := heap_lt hB1
  have hRn := set3 hR1 (.int .i64 r.id) (.int .i64 4) (.slice none 0 0)
  have HS : ∀ o, Hid (((((w1.setCell ⟨w.heap.size + 1, 0, none⟩ (.int .i64 r.id)).setCell ⟨w.heap.size + 1, 1, none⟩ (.int .i64 4)).setCell ⟨w.heap.size + 1, 2, none⟩ (.slice none 0 0)).alloc o).heap[w.heap.size + 1]? = some (.cells #[.int .i64 r.id, .int .i64 4, .slice none 0 0] 37 (0, 0))) := fun o => Hid.intro ((Below.heap_alloc _ _ _ (by simpa using hRl)).trans hRn)
  have HK : ∀ o, Hid (Kept (fun k => k = w.heap.size + 1) w1 ((((w1.setCell ⟨w.heap.size + 1, 0, none⟩ (.int .i64 r.id)).setCell ⟨w.heap.size + 1, 1, none⟩ (.int .i64 4)).setCell ⟨w.heap.size + 1, 2, none⟩ (.slice none 0 0)).alloc o)) := fun o => Hid.intro ((kept3 (fun k => k = w.heap.size + 1) w1 rfl _ _ _).trans (Kept.of_below (below_nw _ _)))
  clear hRn hR1 hB1
  go_wp2
  have hS := (HS (Obj.cells #[.int .i64 (rgZ ms (burst r.addr r.many r.wrap)).fr, .int .i64 (rgZ ms (burst r.addr r.many r.wrap)).tt, .int .i64 (rgZ ms (burst r.addr r.many r.wrap)).sl, .bool (rgZ ms (burst r.addr r.many r.wrap)).only] 74)).out
  have hK := (HK (Obj.cells #[.int .i64 (rgZ ms (burst r.addr r.many r.wrap)).fr, .int .i64 (rgZ ms (burst r.addr r.many r.wrap)).tt, .int .i64 (rgZ ms (burst r.addr r.many r.wrap)).sl, .bool (rgZ ms (burst r.addr r.many r.wrap)).only] 74)).out
  generalize ((((w1.setCell ⟨w.heap.size + 1, 0, none⟩ (.int .i64 r.id)).setCell ⟨w.heap.size + 1, 1, none⟩ (.int .i64 4)).setCell ⟨w.heap.size + 1, 2, none⟩ (.slice none 0 0)).alloc (Obj.cells #[.int .i64 (rgZ ms (burst r.addr r.many r.wrap)).fr, .int .i64 (rgZ ms (burst r.addr r.many r.wrap)).tt, .int .i64 (rgZ ms (burst r.addr r.many r.wrap)).sl, .bool (rgZ ms (burst r.addr r.many r.wrap)).only] 74)) = W at hS hK ⊢
  have s0 : W.cell? ⟨w.heap.size + 1, 0, none⟩ = some (.int .i64 r.id) := heap_cell hS 0
  have s1 : W.cell? ⟨w.heap.size + 1, 1, none⟩ = some (.int .i64 4) := heap_cell hS 1
  have s2 : W.cell? ⟨w.heap.size + 1, 2, none⟩ = some (.slice none 0 0) := heap_cell hS 2
  refine bodyPost_ret (v := .agg #[.int .i64 r.id, .int .i64 4, .slice none 0 0]) (by simp [results, Tryz.results46, go_sem, s0, s1, s2]) rfl ⟨rfl, ?_, ?_⟩
  · exact (HD.out.gr hb1').of (hK.block _ (Nat.lt_of_lt_of_le hDl hb1'.size) (by omega)) (hK.block _ (Nat.lt_of_lt_of_le hHl hb1'.size) (by omega))
  · exact ⟨hK.os.trans hb1'.os, hK.tape.trans hb1'.tape, hK.output.trans hb1'.output, Nat.le_trans hb1'.size hK.size, fun k hk hne => (hK.block k (Nat.lt_of_lt_of_le hk hb1'.size) (by omega)).trans (hb1'.block k hk)⟩

set_option maxRecDepth 100000 in
set_option maxHeartbeats 1000000 in
theorem do_read (w0 : World) (a : Option Addr) (cap : Nat) (ms : List Rng) (D H : Nat) (s : Stt) (who : Int) (r : Req) (pd pl : Option Addr) (cd cl : Nat) (w : World) (hm : RowOf w0 a ms) (hc : ms.length ≤ cap) (hc' : cap ≤ 9223372036854775807) (h : Desk w D H s) (hbw : Below w0.heap.size w0 w) (hr : ReqAt w0 r pd cd pl cl) (hMD : w0.heap.size ≤ D) (hMH : w0.heap.size ≤ H) (hok : reqOkB r = true) (hwho : 0 ≤ who ∧ who ≤ 2) (g : Rng) (hf : rgFirst ms (burst r.addr r.many r.wrap) = some g) (hk : r.kind = 1) :
    Calls Tryz.prog 46 #[.pointer (some ⟨D, 0, none⟩), .slice a ms.length cap, .int .i64 who, reqV r pd cd pl cl] w fun e w' => ∃ p c, e = .returned (rspV ⟨r.id, (turnZ s who g.only r).2.1, (turnZ s who g.only r).2.2⟩ p c) ∧ OwnN w.heap.size w' p c (turnZ s who g.only r).2.2 ∧ (turnZ s who g.only r).2.2.length ≤ c ∧ c ≤ 9223372036854775807 ∧ Desk w' D H (turnZ s who g.only r).1 ∧ Kept (fun k => k = D ∨ k = H) w w' := by
  have HKD := Hid.intro (fun W => kind_read r pd pl cd cl W hk)
  have HSH := Hid.intro (fun TB W h1 h2 h3 h4 h5 h6 => shown_read w0 D H TB s who g.only r pd pl cd cl W h1 h2 h3 h4 h5 hr hMD hMH h6 hok hwho hk)
  generalize turnZ s who g.only r = z at HSH ⊢
  unfold reqV at HKD HSH
  have hDl := h.ltD
  have hHl := h.ltH
  have hws := hbw.size
  have HG := Hid.intro (fun W h1 => reqRange_any a cap ms r pd pl cd cl W h1 hc hc' (req_adr hok))
  have HM := Hid.intro hm
  have HD := Hid.intro h
  have HBW := Hid.intro hbw
  have HRA := Hid.intro hr
  have HOK := Hid.intro hok
  have HF := Hid.intro hf
  clear hm h hbw hr hok hf hk
  unfold reqV at HG ⊢
  go_enter Tryz.func46, Tryz.ntmps46
  go_wp2_with fail
  obtain ⟨W0, hW0⟩ : ∃ W0, (w.alloc (.cells #[.int .i64 r.id, .int .i64 r.kind, .int .i64 r.addr, .int .i64 r.many, .bool r.wrap, .slice pd r.data.length cd, .slice pl r.lanes.length cl] 43)).alloc (.cells #[.int .i64 0, .int .i64 0, .slice none 0 0] 37) = W0 := ⟨_, rfl⟩
  have hb0 : Below w.heap.size w W0 := by rw [← hW0]; exact ((Below.refl _ w).alloc (Nat.le_refl _) _).alloc (by simp) _
  have hB0 : W0.heap[w.heap.size]? = some (.cells #[.int .i64 r.id, .int .i64 r.kind, .int .i64 r.addr, .int .i64 r.many, .bool r.wrap, .slice pd r.data.length cd, .slice pl r.lanes.length cl] 43 (0, 0)) := by rw [← hW0]; exact (Below.heap_alloc _ _ _ (by simp)).trans (nw_at _ rfl)
  have hR0 : W0.heap[w.heap.size + 1]? = some (.cells #[.int .i64 0, .int .i64 0, .slice none 0 0] 37 (0, 0)) := by rw [← hW0]; exact nw_at _ (by simp)
  have hbw0 := HBW.out.trans (hb0.mono hws)
  rw [hW0]
  clear hW0
  refine (HG.out W0 (HM.out.below hbw0)).mono ?_
  rintro e w1 ⟨rfl, hb1⟩
  have hB1 := (hb1.block _ (heap_lt hB0)).trans hB0
  have hR1 := (hb1.block _ (heap_lt hR0)).trans hR0
  have hb1' := hb0.trans (hb1.mono hb0.size)
  have hbw1 := hbw0.trans (hb1.mono hbw0.size)
  clear hb1 hb0 hB0 hR0 hbw0 HG
  unfold Rng.val
  have HZ := Hid.intro (show rgZ ms (burst r.addr r.many r.wrap) = g by rw [rgZ, HF.out]; rfl)
  rw [HF.out, HZ.out]
  simp only [Option.isSome_some]
  have q0 : w1.cell? ⟨w.heap.size, 0, none⟩ = some (.int .i64 r.id) := heap_cell hB1 0
  have q1 : w1.cell? ⟨w.heap.size, 1, none⟩ = some (.int .i64 r.kind) := heap_cell hB1 1
  have q2 : w1.cell? ⟨w.heap.size, 2, none⟩ = some (.int .i64 r.addr) := heap_cell hB1 2
  have q3 : w1.cell? ⟨w.heap.size, 3, none⟩ = some (.int .i64 r.many) := heap_cell hB1 3
  have q4 : w1.cell? ⟨w.heap.size, 4, none⟩ = some (.bool r.wrap) := heap_cell hB1 4
  have q5 : w1.cell? ⟨w.heap.size, 5, none⟩ = some (.slice pd r.data.length cd) := heap_cell hB1 5
  have q6 : w1.cell? ⟨w.heap.size, 6, none⟩ = some (.slice pl r.lanes.length cl) := heap_cell hB1 6
  have hRl := heap_lt hR1
  have hBl := heap_lt hB1
  go_wp2_with fail
  obtain ⟨W2, hW2⟩ : ∃ W2, (w1.alloc (.cells #[.int .i64 g.fr, .int .i64 g.tt, .int .i64 g.sl, .bool g.only] 74)).alloc (.cells #[.pointer (some ⟨D, 0, none⟩), .int .i64 who, .int .i64 r.id, .bool g.only, .int .i64 0, .slice none 0 0] 118) = W2 := ⟨_, rfl⟩
  have hb2 : Below w1.heap.size w1 W2 := by rw [← hW2]; exact ((Below.refl _ w1).alloc (Nat.le_refl _) _).alloc (by simp) _
  have hT2 : W2.heap[w1.heap.size + 1]? = some (.cells (turnC D who r.id g.only 0 (.slice none 0 0)) 118 (0, 0)) := by rw [← hW2]; exact nw_at _ (by simp)
  rw [hW2]
  clear hW2
  have hB2 := (hb2.block _ hBl).trans hB1
  have hR2 := (hb2.block _ hRl).trans hR1
  have hb2' := hb1'.trans (hb2.mono hb1'.size)
  have hbw2 := hbw1.trans (hb2.mono hbw1.size)
  have hs1 := hb1'.size
  clear hb2 hb1' hbw1 hB1 hR1 q0 q1 q2 q3 q4 q5 q6
  refine (HKD.out W2).mono ?_
  rintro e w3 ⟨rfl, hb3⟩
  have hT3 := (hb3.block _ (heap_lt hT2)).trans hT2
  have hB3 := (hb3.block _ (heap_lt hB2)).trans hB2
  have hR3 := (hb3.block _ (heap_lt hR2)).trans hR2
  have hb3' := hb2'.trans (hb3.mono hb2'.size)
  have hbw3 := hbw2.trans (hb3.mono hbw2.size)
  clear hb3 hb2' hbw2 hT2 hB2 hR2 HKD
  go_wp2_with fail
  refine (HSH.out (w1.heap.size + 1) w3 (HD.out.gr hb3') hT3 (by omega) (by omega) hbw3 (by omega)).mono ?_
  rintro e w4 ⟨⟨v4, rfl⟩, p, c, hT4, hO4, hc1, hc2, hD4, hk4⟩
  have hR4 := (hk4.block _ (heap_lt hR3) (by omega)).trans hR3
  have hB4 := (hk4.block _ (heap_lt hB3) (by omega)).trans hB3
  have hs3 := hb3'.size
  have HO4 : Hid (OwnN w.heap.size w4 p c z.2.2 ∧ ∀ b, p = some ⟨b, 0, none⟩ → z.2.2 ≠ [] → w3.heap.size ≤ b) := by
    refine Hid.intro ⟨hO4.mono hs3, fun b hp hne => ?_⟩
    rcases hO4 with h | ⟨g', h1, h2, _⟩
    · exact absurd h hne
    · rw [hp] at h1; cases h1; exact h2
  have hRl4 := heap_lt hR4
  have hRl3 := heap_lt hR3
  have q0 : w4.cell? ⟨w.heap.size, 0, none⟩ = some (.int .i64 r.id) := heap_cell hB4 0
  have t4 : w4.cell? ⟨w1.heap.size + 1, 4, none⟩ = some (.int .i64 z.2.1) := heap_cell hT4 4
  have t5 : w4.cell? ⟨w1.heap.size + 1, 5, none⟩ = some (.slice p z.2.2.length c) := heap_cell hT4 5
  have r0 : w4.cell? ⟨w.heap.size + 1, 0, none⟩ = some (.int .i64 0) := heap_cell hR4 0
  have r1 : w4.cell? ⟨w.heap.size + 1, 1, none⟩ = some (.int .i64 0) := heap_cell hR4 1
  have r2 : w4.cell? ⟨w.heap.size + 1, 2, none⟩ = some (.slice none 0 0) := heap_cell hR4 2
  have f0 := heap_free hR4 0
  have f1 := heap_free hR4 1
  have f2 := heap_free hR4 2
  have HS := Hid.intro (set3 hR4 (.int .i64 r.id) (.int .i64 z.2.1) (.slice p z.2.2.length c))
  have HKK := Hid.intro (kept3 (fun k => k = w.heap.size + 1) w4 rfl (.int .i64 r.id) (.int .i64 z.2.1) (.slice p z.2.2.length c))
  have HD4 := Hid.intro hD4
  have HK4 := Hid.intro hk4
  clear hT4 hO4 hD4 hk4 hR4 hB4 hT3 hB3 hR3 HSH
  go_wp2
  have hS := HS.out
  have hK := HKK.out
  generalize (((w4.setCell ⟨w.heap.size + 1, 0, none⟩ (.int .i64 r.id)).setCell ⟨w.heap.size + 1, 1, none⟩ (.int .i64 z.2.1)).setCell ⟨w.heap.size + 1, 2, none⟩ (.slice p z.2.2.length c)) = W at hS hK ⊢
  have s0 : W.cell? ⟨w.heap.size + 1, 0, none⟩ = some (.int .i64 r.id) := heap_cell hS 0
  have s1 : W.cell? ⟨w.heap.size + 1, 1, none⟩ = some (.int .i64 z.2.1) := heap_cell hS 1
  have s2 : W.cell? ⟨w.heap.size + 1, 2, none⟩ = some (.slice p z.2.2.length c) := heap_cell hS 2
  refine bodyPost_ret (v := .agg #[.int .i64 r.id, .int .i64 z.2.1, .slice p z.2.2.length c]) (by simp [results, Tryz.results46, go_sem, s0, s1, s2]) rfl ⟨p, c, rfl, ?_, hc1, hc2, ?_, ?_⟩
  · by_cases hne : z.2.2 = []
    · exact .inl hne
    · exact HO4.out.1.of (fun b hb hlt => hK.block b hlt (by have := HO4.out.2 b hb hne; omega))
  · exact HD4.out.of (hK.block _ HD4.out.ltD (by omega)) (hK.block _ HD4.out.ltH (by omega))
  · have k4 := HK4.out
    exact ⟨hK.os.trans (k4.os.trans hb3'.os), hK.tape.trans (k4.tape.trans hb3'.tape), hK.output.trans (k4.output.trans hb3'.output), Nat.le_trans hs3 (Nat.le_trans k4.size hK.size), fun k hk hne => (hK.block k (Nat.lt_of_lt_of_le (Nat.lt_of_lt_of_le hk hs3) k4.size) (by omega)).trans ((k4.block k (Nat.lt_of_lt_of_le hk hs3) (by omega)).trans (hb3'.block k hk))⟩

set_option maxRecDepth 100000 in
set_option maxHeartbeats 1000000 in
theorem do_write (w0 : World) (a : Option Addr) (cap : Nat) (ms : List Rng) (D H : Nat) (s : Stt) (who : Int) (r : Req) (pd pl : Option Addr) (cd cl : Nat) (w : World) (hm : RowOf w0 a ms) (hc : ms.length ≤ cap) (hc' : cap ≤ 9223372036854775807) (h : Desk w D H s) (hbw : Below w0.heap.size w0 w) (hr : ReqAt w0 r pd cd pl cl) (hMD : w0.heap.size ≤ D) (hMH : w0.heap.size ≤ H) (hok : reqOkB r = true) (hwho : 0 ≤ who ∧ who ≤ 2) (g : Rng) (hf : rgFirst ms (burst r.addr r.many r.wrap) = some g) (hk : r.kind = 2) :
    Calls Tryz.prog 46 #[.pointer (some ⟨D, 0, none⟩), .slice a ms.length cap, .int .i64 who, reqV r pd cd pl cl] w fun e w' => ∃ p c, e = .returned (rspV ⟨r.id, (turnZ s who g.only r).2.1, (turnZ s who g.only r).2.2⟩ p c) ∧ OwnN w.heap.size w' p c (turnZ s who g.only r).2.2 ∧ (turnZ s who g.only r).2.2.length ≤ c ∧ c ≤ 9223372036854775807 ∧ Desk w' D H (turnZ s who g.only r).1 ∧ Kept (fun k => k = D ∨ k = H) w w' := by
  have HKD := Hid.intro (fun W => kind_write r pd pl cd cl W hk)
  have HSH := Hid.intro (fun TB W h1 h2 h3 h4 h5 h6 => shown_write w0 D H TB s who g.only r pd pl cd cl W h1 h2 h3 h4 h5 hr hMD hMH h6 hok hwho hk)
  generalize turnZ s who g.only r = z at HSH ⊢
  unfold reqV at HKD HSH
  have hDl := h.ltD
  have hHl := h.ltH
  have hws := hbw.size
  have HG := Hid.intro (fun W h1 => reqRange_any a cap ms r pd pl cd cl W h1 hc hc' (req_adr hok))
  have HM := Hid.intro hm
  have HD := Hid.intro h
  have HBW := Hid.intro hbw
  have HRA := Hid.intro hr
  have HOK := Hid.intro hok
  have HF := Hid.intro hf
  clear hm h hbw hr hok hf hk
  unfold reqV at HG ⊢
  go_enter Tryz.func46, Tryz.ntmps46
  go_wp2_with fail
  obtain ⟨W0, hW0⟩ : ∃ W0, (w.alloc (.cells #[.int .i64 r.id, .int .i64 r.kind, .int .i64 r.addr, .int .i64 r.many, .bool r.wrap, .slice pd r.data.length cd, .slice pl r.lanes.length cl] 43)).alloc (.cells #[.int .i64 0, .int .i64 0, .slice none 0 0] 37) = W0 := ⟨_, rfl⟩
  have hb0 : Below w.heap.size w W0 := by rw [← hW0]; exact ((Below.refl _ w).alloc (Nat.le_refl _) _).alloc (by simp) _
  have hB0 : W0.heap[w.heap.size]? = some (.cells #[.int .i64 r.id, .int .i64 r.kind, .int .i64 r.addr, .int .i64 r.many, .bool r.wrap, .slice pd r.data.length cd, .slice pl r.lanes.length cl] 43 (0, 0)) := by rw [← hW0]; exact (Below.heap_alloc _ _ _ (by simp)).trans (nw_at _ rfl)
  have hR0 : W0.heap[w.heap.size + 1]? = some (.cells #[.int .i64 0, .int .i64 0, .slice none 0 0] 37 (0, 0)) := by rw [← hW0]; exact nw_at _ (by simp)
  have hbw0 := HBW.out.trans (hb0.mono hws)
  rw [hW0]
  clear hW0
  refine (HG.out W0 (HM.out.below hbw0)).mono ?_
  rintro e w1 ⟨rfl, hb1⟩
  have hB1 := (hb1.block _ (heap_lt hB0)).trans hB0
  have hR1 := (hb1.block _ (heap_lt hR0)).trans hR0
  have hb1' := hb0.trans (hb1.mono hb0.size)
  have hbw1 := hbw0.trans (hb1.mono hbw0.size)
  clear hb1 hb0 hB0 hR0 hbw0 HG
  unfold Rng.val
  have HZ := Hid.intro (show rgZ ms (burst r.addr r.many r.wrap) = g by rw [rgZ, HF.out]; rfl)
  rw [HF.out, HZ.out]
  simp only [Option.isSome_some]
  have q0 : w1.cell? ⟨w.heap.size, 0, none⟩ = some (.int .i64 r.id) := heap_cell hB1 0
  have q1 : w1.cell? ⟨w.heap.size, 1, none⟩ = some (.int .i64 r.kind) := heap_cell hB1 1
  have q2 : w1.cell? ⟨w.heap.size, 2, none⟩ = some (.int .i64 r.addr) := heap_cell hB1 2
  have q3 : w1.cell? ⟨w.heap.size, 3, none⟩ = some (.int .i64 r.many) := heap_cell hB1 3
  have q4 : w1.cell? ⟨w.heap.size, 4, none⟩ = some (.bool r.wrap) := heap_cell hB1 4
  have q5 : w1.cell? ⟨w.heap.size, 5, none⟩ = some (.slice pd r.data.length cd) := heap_cell hB1 5
  have q6 : w1.cell? ⟨w.heap.size, 6, none⟩ = some (.slice pl r.lanes.length cl) := heap_cell hB1 6
  have hRl := heap_lt hR1
  have hBl := heap_lt hB1
  go_wp2_with fail
  obtain ⟨W2, hW2⟩ : ∃ W2, (w1.alloc (.cells #[.int .i64 g.fr, .int .i64 g.tt, .int .i64 g.sl, .bool g.only] 74)).alloc (.cells #[.pointer (some ⟨D, 0, none⟩), .int .i64 who, .int .i64 r.id, .bool g.only, .int .i64 0, .slice none 0 0] 118) = W2 := ⟨_, rfl⟩
  have hb2 : Below w1.heap.size w1 W2 := by rw [← hW2]; exact ((Below.refl _ w1).alloc (Nat.le_refl _) _).alloc (by simp) _
  have hT2 : W2.heap[w1.heap.size + 1]? = some (.cells (turnC D who r.id g.only 0 (.slice none 0 0)) 118 (0, 0)) := by rw [← hW2]; exact nw_at _ (by simp)
  rw [hW2]
  clear hW2
  have hB2 := (hb2.block _ hBl).trans hB1
  have hR2 := (hb2.block _ hRl).trans hR1
  have hb2' := hb1'.trans (hb2.mono hb1'.size)
  have hbw2 := hbw1.trans (hb2.mono hbw1.size)
  have hs1 := hb1'.size
  clear hb2 hb1' hbw1 hB1 hR1 q0 q1 q2 q3 q4 q5 q6
  refine (HKD.out W2).mono ?_
  rintro e w3 ⟨rfl, hb3⟩
  have hT3 := (hb3.block _ (heap_lt hT2)).trans hT2
  have hB3 := (hb3.block _ (heap_lt hB2)).trans hB2
  have hR3 := (hb3.block _ (heap_lt hR2)).trans hR2
  have hb3' := hb2'.trans (hb3.mono hb2'.size)
  have hbw3 := hbw2.trans (hb3.mono hbw2.size)
  clear hb3 hb2' hbw2 hT2 hB2 hR2 HKD
  go_wp2_with fail
  refine (HSH.out (w1.heap.size + 1) w3 (HD.out.gr hb3') hT3 (by omega) (by omega) hbw3 (by omega)).mono ?_
  rintro e w4 ⟨⟨v4, rfl⟩, p, c, hT4, hO4, hc1, hc2, hD4, hk4⟩
  have hR4 := (hk4.block _ (heap_lt hR3) (by omega)).trans hR3
  have hB4 := (hk4.block _ (heap_lt hB3) (by omega)).trans hB3
  have hs3 := hb3'.size
  have HO4 : Hid (OwnN w.heap.size w4 p c z.2.2 ∧ ∀ b, p = some ⟨b, 0, none⟩ → z.2.2 ≠ [] → w3.heap.size ≤ b) := by
    refine Hid.intro ⟨hO4.mono hs3, fun b hp hne => ?_⟩
    rcases hO4 with h | ⟨g', h1, h2, _⟩
    · exact absurd h hne
    · rw [hp] at h1; cases h1; exact h2
  have hRl4 := heap_lt hR4
  have hRl3 := heap_lt hR3
  have q0 : w4.cell? ⟨w.heap.size, 0, none⟩ = some (.int .i64 r.id) := heap_cell hB4 0
  have t4 : w4.cell? ⟨w1.heap.size + 1, 4, none⟩ = some (.int .i64 z.2.1) := heap_cell hT4 4
  have t5 : w4.cell? ⟨w1.heap.size + 1, 5, none⟩ = some (.slice p z.2.2.length c) := heap_cell hT4 5
  have r0 : w4.cell? ⟨w.heap.size + 1, 0, none⟩ = some (.int .i64 0) := heap_cell hR4 0
  have r1 : w4.cell? ⟨w.heap.size + 1, 1, none⟩ = some (.int .i64 0) := heap_cell hR4 1
  have r2 : w4.cell? ⟨w.heap.size + 1, 2, none⟩ = some (.slice none 0 0) := heap_cell hR4 2
  have f0 := heap_free hR4 0
  have f1 := heap_free hR4 1
  have f2 := heap_free hR4 2
  have HS := Hid.intro (set3 hR4 (.int .i64 r.id) (.int .i64 z.2.1) (.slice p z.2.2.length c))
  have HKK := Hid.intro (kept3 (fun k => k = w.heap.size + 1) w4 rfl (.int .i64 r.id) (.int .i64 z.2.1) (.slice p z.2.2.length c))
  have HD4 := Hid.intro hD4
  have HK4 := Hid.intro hk4
  clear hT4 hO4 hD4 hk4 hR4 hB4 hT3 hB3 hR3 HSH
  go_wp2
  have hS := HS.out
  have hK := HKK.out
  generalize (((w4.setCell ⟨w.heap.size + 1, 0, none⟩ (.int .i64 r.id)).setCell ⟨w.heap.size + 1, 1, none⟩ (.int .i64 z.2.1)).setCell ⟨w.heap.size + 1, 2, none⟩ (.slice p z.2.2.length c)) = W at hS hK ⊢
  have s0 : W.cell? ⟨w.heap.size + 1, 0, none⟩ = some (.int .i64 r.id) := heap_cell hS 0
  have s1 : W.cell? ⟨w.heap.size + 1, 1, none⟩ = some (.int .i64 z.2.1) := heap_cell hS 1
  have s2 : W.cell? ⟨w.heap.size + 1, 2, none⟩ = some (.slice p z.2.2.length c) := heap_cell hS 2
  refine bodyPost_ret (v := .agg #[.int .i64 r.id, .int .i64 z.2.1, .slice p z.2.2.length c]) (by simp [results, Tryz.results46, go_sem, s0, s1, s2]) rfl ⟨p, c, rfl, ?_, hc1, hc2, ?_, ?_⟩
  · by_cases hne : z.2.2 = []
    · exact .inl hne
    · exact HO4.out.1.of (fun b hb hlt => hK.block b hlt (by have := HO4.out.2 b hb hne; omega))
  · exact HD4.out.of (hK.block _ HD4.out.ltD (by omega)) (hK.block _ HD4.out.ltH (by omega))
  · have k4 := HK4.out
    exact ⟨hK.os.trans (k4.os.trans hb3'.os), hK.tape.trans (k4.tape.trans hb3'.tape), hK.output.trans (k4.output.trans hb3'.output), Nat.le_trans hs3 (Nat.le_trans k4.size hK.size), fun k hk hne => (hK.block k (Nat.lt_of_lt_of_le (Nat.lt_of_lt_of_le hk hs3) k4.size) (by omega)).trans ((k4.block k (Nat.lt_of_lt_of_le hk hs3) (by omega)).trans (hb3'.block k hk))⟩

set_option maxRecDepth 100000 in
set_option maxHeartbeats 1000000 in
theorem do_hold (w0 : World) (a : Option Addr) (cap : Nat) (ms : List Rng) (D H : Nat) (s : Stt) (who : Int) (r : Req) (pd pl : Option Addr) (cd cl : Nat) (w : World) (hm : RowOf w0 a ms) (hc : ms.length ≤ cap) (hc' : cap ≤ 9223372036854775807) (h : Desk w D H s) (hbw : Below w0.heap.size w0 w) (hr : ReqAt w0 r pd cd pl cl) (hMD : w0.heap.size ≤ D) (hMH : w0.heap.size ≤ H) (hok : reqOkB r = true) (hwho : 0 ≤ who ∧ who ≤ 2) (g : Rng) (hf : rgFirst ms (burst r.addr r.many r.wrap) = some g) (hk : r.kind = 3) :
    Calls Tryz.prog 46 #[.pointer (some ⟨D, 0, none⟩), .slice a ms.length cap, .int .i64 who, reqV r pd cd pl cl] w fun e w' => ∃ p c, e = .returned (rspV ⟨r.id, (turnZ s who g.only r).2.1, (turnZ s who g.only r).2.2⟩ p c) ∧ OwnN w.heap.size w' p c (turnZ s who g.only r).2.2 ∧ (turnZ s who g.only r).2.2.length ≤ c ∧ c ≤ 9223372036854775807 ∧ Desk w' D H (turnZ s who g.only r).1 ∧ Kept (fun k => k = D ∨ k = H) w w' := by
  have HKD := Hid.intro (fun W => kind_hold r pd pl cd cl W hk)
  have HSH := Hid.intro (fun TB W h1 h2 h3 h4 h5 h6 => shown_hold w0 D H TB s who g.only r pd pl cd cl W h1 h2 h3 h4 h5 hr hMD hMH h6 hok hwho hk)
  generalize turnZ s who g.only r = z at HSH ⊢
  unfold reqV at HKD HSH
  have hDl := h.ltD
  have hHl := h.ltH
  have hws := hbw.size
  have HG := Hid.intro (fun W h1 => reqRange_any a cap ms r pd pl cd cl W h1 hc hc' (req_adr hok))
  have HM := Hid.intro hm
  have HD := Hid.intro h
  have HBW := Hid.intro hbw
  have HRA := Hid.intro hr
  have HOK := Hid.intro hok
  have HF := Hid.intro hf
  clear hm h hbw hr hok hf hk
  unfold reqV at HG ⊢
  go_enter Tryz.func46, Tryz.ntmps46
  go_wp2_with fail
  obtain ⟨W0, hW0⟩ : ∃ W0, (w.alloc (.cells #[.int .i64 r.id, .int .i64 r.kind, .int .i64 r.addr, .int .i64 r.many, .bool r.wrap, .slice pd r.data.length cd, .slice pl r.lanes.length cl] 43)).alloc (.cells #[.int .i64 0, .int .i64 0, .slice none 0 0] 37) = W0 := ⟨_, rfl⟩
  have hb0 : Below w.heap.size w W0 := by rw [← hW0]; exact ((Below.refl _ w).alloc (Nat.le_refl _) _).alloc (by simp) _
  have hB0 : W0.heap[w.heap.size]? = some (.cells #[.int .i64 r.id, .int .i64 r.kind, .int .i64 r.addr, .int .i64 r.many, .bool r.wrap, .slice pd r.data.length cd, .slice pl r.lanes.length cl] 43 (0, 0)) := by rw [← hW0]; exact (Below.heap_alloc _ _ _ (by simp)).trans (nw_at _ rfl)
  have hR0 : W0.heap[w.heap.size + 1]? = some (.cells #[.int .i64 0, .int .i64 0, .slice none 0 0] 37 (0, 0)) := by rw [← hW0]; exact nw_at _ (by simp)
  have hbw0 := HBW.out.trans (hb0.mono hws)
  rw [hW0]
  clear hW0
  refine (HG.out W0 (HM.out.below hbw0)).mono ?_
  rintro e w1 ⟨rfl, hb1⟩
  have hB1 := (hb1.block _ (heap_lt hB0)).trans hB0
  have hR1 := (hb1.block _ (heap_lt hR0)).trans hR0
  have hb1' := hb0.trans (hb1.mono hb0.size)
  have hbw1 := hbw0.trans (hb1.mono hbw0.size)
  clear hb1 hb0 hB0 hR0 hbw0 HG
  unfold Rng.val
  have HZ := Hid.intro (show rgZ ms (burst r.addr r.many r.wrap) = g by rw [rgZ, HF.out]; rfl)
  rw [HF.out, HZ.out]
  simp only [Option.isSome_some]
  have q0 : w1.cell? ⟨w.heap.size, 0, none⟩ = some (.int .i64 r.id) := heap_cell hB1 0
  have q1 : w1.cell? ⟨w.heap.size, 1, none⟩ = some (.int .i64 r.kind) := heap_cell hB1 1
  have q2 : w1.cell? ⟨w.heap.size, 2, none⟩ = some (.int .i64 r.addr) := heap_cell hB1 2
  have q3 : w1.cell? ⟨w.heap.size, 3, none⟩ = some (.int .i64 r.many) := heap_cell hB1 3
  have q4 : w1.cell? ⟨w.heap.size, 4, none⟩ = some (.bool r.wrap) := heap_cell hB1 4
  have q5 : w1.cell? ⟨w.heap.size, 5, none⟩ = some (.slice pd r.data.length cd) := heap_cell hB1 5
  have q6 : w1.cell? ⟨w.heap.size, 6, none⟩ = some (.slice pl r.lanes.length cl) := heap_cell hB1 6
  have hRl := heap_lt hR1
  have hBl := heap_lt hB1
  go_wp2_with fail
  obtain ⟨W2, hW2⟩ : ∃ W2, (w1.alloc (.cells #[.int .i64 g.fr, .int .i64 g.tt, .int .i64 g.sl, .bool g.only] 74)).alloc (.cells #[.pointer (some ⟨D, 0, none⟩), .int .i64 who, .int .i64 r.id, .bool g.only, .int .i64 0, .slice none 0 0] 118) = W2 := ⟨_, rfl⟩
  have hb2 : Below w1.heap.size w1 W2 := by rw [← hW2]; exact ((Below.refl _ w1).alloc (Nat.le_refl _) _).alloc (by simp) _
  have hT2 : W2.heap[w1.heap.size + 1]? = some (.cells (turnC D who r.id g.only 0 (.slice none 0 0)) 118 (0, 0)) := by rw [← hW2]; exact nw_at _ (by simp)
  rw [hW2]
  clear hW2
  have hB2 := (hb2.block _ hBl).trans hB1
  have hR2 := (hb2.block _ hRl).trans hR1
  have hb2' := hb1'.trans (hb2.mono hb1'.size)
  have hbw2 := hbw1.trans (hb2.mono hbw1.size)
  have hs1 := hb1'.size
  clear hb2 hb1' hbw1 hB1 hR1 q0 q1 q2 q3 q4 q5 q6
  refine (HKD.out W2).mono ?_
  rintro e w3 ⟨rfl, hb3⟩
  have hT3 := (hb3.block _ (heap_lt hT2)).trans hT2
  have hB3 := (hb3.block _ (heap_lt hB2)).trans hB2
  have hR3 := (hb3.block _ (heap_lt hR2)).trans hR2
  have hb3' := hb2'.trans (hb3.mono hb2'.size)
  have hbw3 := hbw2.trans (hb3.mono hbw2.size)
  clear hb3 hb2' hbw2 hT2 hB2 hR2 HKD
  go_wp2_with fail
  refine (HSH.out (w1.heap.size + 1) w3 (HD.out.gr hb3') hT3 (by omega) (by omega) hbw3 (by omega)).mono ?_
  rintro e w4 ⟨⟨v4, rfl⟩, p, c, hT4, hO4, hc1, hc2, hD4, hk4⟩
  have hR4 := (hk4.block _ (heap_lt hR3) (by omega)).trans hR3
  have hB4 := (hk4.block _ (heap_lt hB3) (by omega)).trans hB3
  have hs3 := hb3'.size
  have HO4 : Hid (OwnN w.heap.size w4 p c z.2.2 ∧ ∀ b, p = some ⟨b, 0, none⟩ → z.2.2 ≠ [] → w3.heap.size ≤ b) := by
    refine Hid.intro ⟨hO4.mono hs3, fun b hp hne => ?_⟩
    rcases hO4 with h | ⟨g', h1, h2, _⟩
    · exact absurd h hne
    · rw [hp] at h1; cases h1; exact h2
  have hRl4 := heap_lt hR4
  have hRl3 := heap_lt hR3
  have q0 : w4.cell? ⟨w.heap.size, 0, none⟩ = some (.int .i64 r.id) := heap_cell hB4 0
  have t4 : w4.cell? ⟨w1.heap.size + 1, 4, none⟩ = some (.int .i64 z.2.1) := heap_cell hT4 4
  have t5 : w4.cell? ⟨w1.heap.size + 1, 5, none⟩ = some (.slice p z.2.2.length c) := heap_cell hT4 5
  have r0 : w4.cell? ⟨w.heap.size + 1, 0, none⟩ = some (.int .i64 0) := heap_cell hR4 0
  have r1 : w4.cell? ⟨w.heap.size + 1, 1, none⟩ = some (.int .i64 0) := heap_cell hR4 1
  have r2 : w4.cell? ⟨w.heap.size + 1, 2, none⟩ = some (.slice none 0 0) := heap_cell hR4 2
  have f0 := heap_free hR4 0
  have f1 := heap_free hR4 1
  have f2 := heap_free hR4 2
  have HS := Hid.intro (set3 hR4 (.int .i64 r.id) (.int .i64 z.2.1) (.slice p z.2.2.length c))
  have HKK := Hid.intro (kept3 (fun k => k = w.heap.size + 1) w4 rfl (.int .i64 r.id) (.int .i64 z.2.1) (.slice p z.2.2.length c))
  have HD4 := Hid.intro hD4
  have HK4 := Hid.intro hk4
  clear hT4 hO4 hD4 hk4 hR4 hB4 hT3 hB3 hR3 HSH
  go_wp2
  have hS := HS.out
  have hK := HKK.out
  generalize (((w4.setCell ⟨w.heap.size + 1, 0, none⟩ (.int .i64 r.id)).setCell ⟨w.heap.size + 1, 1, none⟩ (.int .i64 z.2.1)).setCell ⟨w.heap.size + 1, 2, none⟩ (.slice p z.2.2.length c)) = W at hS hK ⊢
  have s0 : W.cell? ⟨w.heap.size + 1, 0, none⟩ = some (.int .i64 r.id) := heap_cell hS 0
  have s1 : W.cell? ⟨w.heap.size + 1, 1, none⟩ = some (.int .i64 z.2.1) := heap_cell hS 1
  have s2 : W.cell? ⟨w.heap.size + 1, 2, none⟩ = some (.slice p z.2.2.length c) := heap_cell hS 2
  refine bodyPost_ret (v := .agg #[.int .i64 r.id, .int .i64 z.2.1, .slice p z.2.2.length c]) (by simp [results, Tryz.results46, go_sem, s0, s1, s2]) rfl ⟨p, c, rfl, ?_, hc1, hc2, ?_, ?_⟩
  · by_cases hne : z.2.2 = []
    · exact .inl hne
    · exact HO4.out.1.of (fun b hb hlt => hK.block b hlt (by have := HO4.out.2 b hb hne; omega))
  · exact HD4.out.of (hK.block _ HD4.out.ltD (by omega)) (hK.block _ HD4.out.ltH (by omega))
  · have k4 := HK4.out
    exact ⟨hK.os.trans (k4.os.trans hb3'.os), hK.tape.trans (k4.tape.trans hb3'.tape), hK.output.trans (k4.output.trans hb3'.output), Nat.le_trans hs3 (Nat.le_trans k4.size hK.size), fun k hk hne => (hK.block k (Nat.lt_of_lt_of_le (Nat.lt_of_lt_of_le hk hs3) k4.size) (by omega)).trans ((k4.block k (Nat.lt_of_lt_of_le hk hs3) (by omega)).trans (hb3'.block k hk))⟩

set_option maxRecDepth 100000 in
set_option maxHeartbeats 1000000 in
theorem do_try (w0 : World) (a : Option Addr) (cap : Nat) (ms : List Rng) (D H : Nat) (s : Stt) (who : Int) (r : Req) (pd pl : Option Addr) (cd cl : Nat) (w : World) (hm : RowOf w0 a ms) (hc : ms.length ≤ cap) (hc' : cap ≤ 9223372036854775807) (h : Desk w D H s) (hbw : Below w0.heap.size w0 w) (hr : ReqAt w0 r pd cd pl cl) (hMD : w0.heap.size ≤ D) (hMH : w0.heap.size ≤ H) (hok : reqOkB r = true) (hwho : 0 ≤ who ∧ who ≤ 2) (g : Rng) (hf : rgFirst ms (burst r.addr r.many r.wrap) = some g) (hk : r.kind = 4) :
    Calls Tryz.prog 46 #[.pointer (some ⟨D, 0, none⟩), .slice a ms.length cap, .int .i64 who, reqV r pd cd pl cl] w fun e w' => ∃ p c, e = .returned (rspV ⟨r.id, (turnZ s who g.only r).2.1, (turnZ s who g.only r).2.2⟩ p c) ∧ OwnN w.heap.size w' p c (turnZ s who g.only r).2.2 ∧ (turnZ s who g.only r).2.2.length ≤ c ∧ c ≤ 9223372036854775807 ∧ Desk w' D H (turnZ s who g.only r).1 ∧ Kept (fun k => k = D ∨ k = H) w w' := by
  have HKD := Hid.intro (fun W => kind_try r pd pl cd cl W hk)
  have HSH := Hid.intro (fun TB W h1 h2 h3 h4 h5 h6 => shown_try w0 D H TB s who g.only r pd pl cd cl W h1 h2 h3 h4 h5 hr hMD hMH h6 hok hwho hk)
  generalize turnZ s who g.only r = z at HSH ⊢
  unfold reqV at HKD HSH
  have hDl := h.ltD
  have hHl := h.ltH
  have hws := hbw.size
  have HG := Hid.intro (fun W h1 => reqRange_any a cap ms r pd pl cd cl W h1 hc hc' (req_adr hok))
  have HM := Hid.intro hm
  have HD := Hid.intro h
  have HBW := Hid.intro hbw
  have HRA := Hid.intro hr
  have HOK := Hid.intro hok
  have HF := Hid.intro hf
  clear hm h hbw hr hok hf hk
  unfold reqV at HG ⊢
  go_enter Tryz.func46, Tryz.ntmps46
  go_wp2_with fail
  obtain ⟨W0, hW0⟩ : ∃ W0, (w.alloc (.cells #[.int .i64 r.id, .int .i64 r.kind, .int .i64 r.addr, .int .i64 r.many, .bool r.wrap, .slice pd r.data.length cd, .slice pl r.lanes.length cl] 43)).alloc (.cells #[.int .i64 0, .int .i64 0, .slice none 0 0] 37) = W0 := ⟨_, rfl⟩
  have hb0 : Below w.heap.size w W0 := by rw [← hW0]; exact ((Below.refl _ w).alloc (Nat.le_refl _) _).alloc (by simp) _
  have hB0 : W0.heap[w.heap.size]? = some (.cells #[.int .i64 r.id, .int .i64 r.kind, .int .i64 r.addr, .int .i64 r.many, .bool r.wrap, .slice pd r.data.length cd, .slice pl r.lanes.length cl] 43 (0, 0)) := by rw [← hW0]; exact (Below.heap_alloc _ _ _ (by simp)).trans (nw_at _ rfl)
  have hR0 : W0.heap[w.heap.size + 1]? = some (.cells #[.int .i64 0, .int .i64 0, .slice none 0 0] 37 (0, 0)) := by rw [← hW0]; exact nw_at _ (by simp)
  have hbw0 := HBW.out.trans (hb0.mono hws)
  rw [hW0]
  clear hW0
  refine (HG.out W0 (HM.out.below hbw0)).mono ?_
  rintro e w1 ⟨rfl, hb1⟩
  have hB1 := (hb1.block _ (heap_lt hB0)).trans hB0
  have hR1 := (hb1.block _ (heap_lt hR0)).trans hR0
  have hb1' := hb0.trans (hb1.mono hb0.size)
  have hbw1 := hbw0.trans (hb1.mono hbw0.size)
  clear hb1 hb0 hB0 hR0 hbw0 HG
  unfold Rng.val
  have HZ := Hid.intro (show rgZ ms (burst r.addr r.many r.wrap) = g by rw [rgZ, HF.out]; rfl)
  rw [HF.out, HZ.out]
  simp only [Option.isSome_some]
  have q0 : w1.cell? ⟨w.heap.size, 0, none⟩ = some (.int .i64 r.id) := heap_cell hB1 0
  have q1 : w1.cell? ⟨w.heap.size, 1, none⟩ = some (.int .i64 r.kind) := heap_cell hB1 1
  have q2 : w1.cell? ⟨w.heap.size, 2, none⟩ = some (.int .i64 r.addr) := heap_cell hB1 2
  have q3 : w1.cell? ⟨w.heap.size, 3, none⟩ = some (.int .i64 r.many) := heap_cell hB1 3
  have q4 : w1.cell? ⟨w.heap.size, 4, none⟩ = some (.bool r.wrap) := heap_cell hB1 4
  have q5 : w1.cell? ⟨w.heap.size, 5, none⟩ = some (.slice pd r.data.length cd) := heap_cell hB1 5
  have q6 : w1.cell? ⟨w.heap.size, 6, none⟩ = some (.slice pl r.lanes.length cl) := heap_cell hB1 6
  have hRl := heap_lt hR1
  have hBl := heap_lt hB1
  go_wp2_with fail
  obtain ⟨W2, hW2⟩ : ∃ W2, (w1.alloc (.cells #[.int .i64 g.fr, .int .i64 g.tt, .int .i64 g.sl, .bool g.only] 74)).alloc (.cells #[.pointer (some ⟨D, 0, none⟩), .int .i64 who, .int .i64 r.id, .bool g.only, .int .i64 0, .slice none 0 0] 118) = W2 := ⟨_, rfl⟩
  have hb2 : Below w1.heap.size w1 W2 := by rw [← hW2]; exact ((Below.refl _ w1).alloc (Nat.le_refl _) _).alloc (by simp) _
  have hT2 : W2.heap[w1.heap.size + 1]? = some (.cells (turnC D who r.id g.only 0 (.slice none 0 0)) 118 (0, 0)) := by rw [← hW2]; exact nw_at _ (by simp)
  rw [hW2]
  clear hW2
  have hB2 := (hb2.block _ hBl).trans hB1
  have hR2 := (hb2.block _ hRl).trans hR1
  have hb2' := hb1'.trans (hb2.mono hb1'.size)
  have hbw2 := hbw1.trans (hb2.mono hbw1.size)
  have hs1 := hb1'.size
  clear hb2 hb1' hbw1 hB1 hR1 q0 q1 q2 q3 q4 q5 q6
  refine (HKD.out W2).mono ?_
  rintro e w3 ⟨rfl, hb3⟩
  have hT3 := (hb3.block _ (heap_lt hT2)).trans hT2
  have hB3 := (hb3.block _ (heap_lt hB2)).trans hB2
  have hR3 := (hb3.block _ (heap_lt hR2)).trans hR2
  have hb3' := hb2'.trans (hb3.mono hb2'.size)
  have hbw3 := hbw2.trans (hb3.mono hbw2.size)
  clear hb3 hb2' hbw2 hT2 hB2 hR2 HKD
  go_wp2_with fail
  refine (HSH.out (w1.heap.size + 1) w3 (HD.out.gr hb3') hT3 (by omega) (by omega) hbw3 (by omega)).mono ?_
  rintro e w4 ⟨⟨v4, rfl⟩, p, c, hT4, hO4, hc1, hc2, hD4, hk4⟩
  have hR4 := (hk4.block _ (heap_lt hR3) (by omega)).trans hR3
  have hB4 := (hk4.block _ (heap_lt hB3) (by omega)).trans hB3
  have hs3 := hb3'.size
  have HO4 : Hid (OwnN w.heap.size w4 p c z.2.2 ∧ ∀ b, p = some ⟨b, 0, none⟩ → z.2.2 ≠ [] → w3.heap.size ≤ b) := by
    refine Hid.intro ⟨hO4.mono hs3, fun b hp hne => ?_⟩
    rcases hO4 with h | ⟨g', h1, h2, _⟩
    · exact absurd h hne
    · rw [hp] at h1; cases h1; exact h2
  have hRl4 := heap_lt hR4
  have hRl3 := heap_lt hR3
  have q0 : w4.cell? ⟨w.heap.size, 0, none⟩ = some (.int .i64 r.id) := heap_cell hB4 0
  have t4 : w4.cell? ⟨w1.heap.size + 1, 4, none⟩ = some (.int .i64 z.2.1) := heap_cell hT4 4
  have t5 : w4.cell? ⟨w1.heap.size + 1, 5, none⟩ = some (.slice p z.2.2.length c) := heap_cell hT4 5
  have r0 : w4.cell? ⟨w.heap.size + 1, 0, none⟩ = some (.int .i64 0) := heap_cell hR4 0
  have r1 : w4.cell? ⟨w.heap.size + 1, 1, none⟩ = some (.int .i64 0) := heap_cell hR4 1
  have r2 : w4.cell? ⟨w.heap.size + 1, 2, none⟩ = some (.slice none 0 0) := heap_cell hR4 2
  have f0 := heap_free hR4 0
  have f1 := heap_free hR4 1
  have f2 := heap_free hR4 2
  have HS := Hid.intro (set3 hR4 (.int .i64 r.id) (.int .i64 z.2.1) (.slice p z.2.2.length c))
  have HKK := Hid.intro (kept3 (fun k => k = w.heap.size + 1) w4 rfl (.int .i64 r.id) (.int .i64 z.2.1) (.slice p z.2.2.length c))
  have HD4 := Hid.intro hD4
  have HK4 := Hid.intro hk4
  clear hT4 hO4 hD4 hk4 hR4 hB4 hT3 hB3 hR3 HSH
  go_wp2
  have hS := HS.out
  have hK := HKK.out
  generalize (((w4.setCell ⟨w.heap.size + 1, 0, none⟩ (.int .i64 r.id)).setCell ⟨w.heap.size + 1, 1, none⟩ (.int .i64 z.2.1)).setCell ⟨w.heap.size + 1, 2, none⟩ (.slice p z.2.2.length c)) = W at hS hK ⊢
  have s0 : W.cell? ⟨w.heap.size + 1, 0, none⟩ = some (.int .i64 r.id) := heap_cell hS 0
  have s1 : W.cell? ⟨w.heap.size + 1, 1, none⟩ = some (.int .i64 z.2.1) := heap_cell hS 1
  have s2 : W.cell? ⟨w.heap.size + 1, 2, none⟩ = some (.slice p z.2.2.length c) := heap_cell hS 2
  refine bodyPost_ret (v := .agg #[.int .i64 r.id, .int .i64 z.2.1, .slice p z.2.2.length c]) (by simp [results, Tryz.results46, go_sem, s0, s1, s2]) rfl ⟨p, c, rfl, ?_, hc1, hc2, ?_, ?_⟩
  · by_cases hne : z.2.2 = []
    · exact .inl hne
    · exact HO4.out.1.of (fun b hb hlt => hK.block b hlt (by have := HO4.out.2 b hb hne; omega))
  · exact HD4.out.of (hK.block _ HD4.out.ltD (by omega)) (hK.block _ HD4.out.ltH (by omega))
  · have k4 := HK4.out
    exact ⟨hK.os.trans (k4.os.trans hb3'.os), hK.tape.trans (k4.tape.trans hb3'.tape), hK.output.trans (k4.output.trans hb3'.output), Nat.le_trans hs3 (Nat.le_trans k4.size hK.size), fun k hk hne => (hK.block k (Nat.lt_of_lt_of_le (Nat.lt_of_lt_of_le hk hs3) k4.size) (by omega)).trans ((k4.block k (Nat.lt_of_lt_of_le hk hs3) (by omega)).trans (hb3'.block k hk))⟩

end Go.Proofs.YtpbkpfdbdfnlbaaGreat

namespace Go.Proofs.YtpbkpfdbdfnlbaaGreat
open Go.RowKit
set_option linter.unusedSimpArgs false
set_option linter.unusedVariables false

theorem rg_only {ms : List Rng} (hok : mapOkB ms = true) {l : List Int} (hl : l ≠ []) : (rgFirst ms l = none ∧ wholeZ ms l < 0) ∨ ∃ g, rgFirst ms l = some g ∧ ¬ wholeZ ms l < 0 ∧ onlyAt ms (wholeZ ms l) = g.only := by
  have hs := rg_slave hok hl
  have hm := (mapOk_iff ms).1 hok
  rcases whole_range ms l with hk | ⟨k, hk, hke⟩
  · cases hf : rgFirst ms l with
    | none => exact .inl ⟨rfl, by omega⟩
    | some g =>
      exfalso
      rw [hf, hk] at hs
      simp only [slaveAt] at hs
      unfold rgFirst at hf
      have hg := hm.2.1 g (List.mem_of_find?_eq_some hf)
      simp [rngOkB] at hg
      simp at hs
      omega
  · cases hf : rgFirst ms l with
    | none =>
      exfalso
      rw [hf, hke] at hs
      have hg := hm.2.1 ms[k] (List.getElem_mem hk)
      simp [rngOkB] at hg
      have h0 : ¬ ((k : Int) < 0) := by omega
      simp [slaveAt, h0, hk] at hs
      omega
    | some g =>
      refine .inr ⟨g, rfl, by omega, ?_⟩
      unfold rgFirst at hf
      have hp := List.find?_some hf
      obtain ⟨j, hj, rfl⟩ := List.mem_iff_getElem.1 (List.mem_of_find?_eq_some hf)
      cases l with
      | nil => exact absurd rfl hl
      | cons a l =>
        simp only [allInR, List.all_cons, Bool.and_eq_true] at hp
        have hw := hke
        simp only [wholeZ] at hw
        by_cases hall : (l.all fun x => findAt ms x 0 == findAt ms a 0) = true
        · rw [if_pos hall, findAt_only hm.2.2 hj hp.1] at hw
          have : j = k := by omega
          subst this
          rw [hke]
          simp [onlyAt, hj]
        · rw [if_neg hall] at hw; omega

theorem turn_do {ms : List Rng} {s : Stt} {who : Int} {r : Req} {g : Rng} (h : reqOkB r = true) (hz : ¬ wholeZ ms (burst r.addr r.many r.wrap) < 0) (ho : onlyAt ms (wholeZ ms (burst r.addr r.many r.wrap)) = g.only) :
    atmDo ms s who r = ((turnZ s who g.only r).1, ⟨r.id, (turnZ s who g.only r).2.1, (turnZ s who g.only r).2.2⟩) := by
  obtain ⟨h7, h8, h9⟩ := req_parts h
  unfold turnZ
  by_cases k1 : r.kind = 1
  · rw [if_pos k1, atmDo_read hz k1]
  rw [if_neg k1]
  by_cases k3 : r.kind = 3
  · rw [if_pos k3, atmDo_hold hz k3]
  rw [if_neg k3]
  have hw : writesB r = true := by simp [writesB]; omega
  by_cases hon : g.only = true
  · rw [if_pos hon, atmDo_deny hz (by rw [hw, ho, hon]; rfl)]
  rw [if_neg hon]
  have hn : ¬ (writesB r && onlyAt ms (wholeZ ms (burst r.addr r.many r.wrap))) = true := by rw [ho]; simp [hon]
  by_cases k4 : r.kind = 4
  · rw [if_pos k4]
    by_cases hh : getZ s.holds (atR who r.id) = r.addr
    · rw [if_pos hh, atmDo_swap hz hn k4 hh]
    · rw [if_neg hh, atmDo_miss hz hn k4 hh]
  · rw [if_neg k4, atmDo_write hz hn (by omega)]

theorem do_any (w0 : World) (a : Option Addr) (cap : Nat) (ms : List Rng) (D H : Nat) (s : Stt) (who : Int) (r : Req) (pd pl : Option Addr) (cd cl : Nat) (w : World) (hm : RowOf w0 a ms) (hc : ms.length ≤ cap) (hc' : cap ≤ 9223372036854775807) (h : Desk w D H s) (hbw : Below w0.heap.size w0 w) (hr : ReqAt w0 r pd cd pl cl) (hMD : w0.heap.size ≤ D) (hMH : w0.heap.size ≤ H) (hmo : mapOkB ms = true) (hok : reqOkB r = true) (hwho : 0 ≤ who ∧ who ≤ 2) :
    Calls Tryz.prog 46 #[.pointer (some ⟨D, 0, none⟩), .slice a ms.length cap, .int .i64 who, reqV r pd cd pl cl] w fun e w' => ∃ p c, e = .returned (rspV (atmDo ms s who r).2 p c) ∧ OwnN w.heap.size w' p c (atmDo ms s who r).2.data ∧ (atmDo ms s who r).2.data.length ≤ c ∧ c ≤ 9223372036854775807 ∧ Desk w' D H (atmDo ms s who r).1 ∧ Kept (fun k => k = D ∨ k = H) w w' := by
  rcases rg_only hmo (burst_ne (req_adr hok)) with ⟨hf, hz⟩ | ⟨g, hf, hz, ho⟩
  · rw [atmDo_none hz]
    refine (do_none w0 a cap ms D H s who r pd pl cd cl w hm hc hc' h hbw hr hMD hMH hok hwho hf).mono ?_
    rintro e w' ⟨rfl, h1, h2⟩
    exact ⟨none, 0, rfl, .inl rfl, Nat.le_refl _, by omega, h1, h2⟩
  · rw [turn_do hok hz ho]
    obtain ⟨_, _, h9⟩ := req_parts hok
    have hk : r.kind = 1 ∨ r.kind = 2 ∨ r.kind = 3 ∨ r.kind = 4 := by omega
    rcases hk with hk | hk | hk | hk
    · exact do_read w0 a cap ms D H s who r pd pl cd cl w hm hc hc' h hbw hr hMD hMH hok hwho g hf hk
    · exact do_write w0 a cap ms D H s who r pd pl cd cl w hm hc hc' h hbw hr hMD hMH hok hwho g hf hk
    · exact do_hold w0 a cap ms D H s who r pd pl cd cl w hm hc hc' h hbw hr hMD hMH hok hwho g hf hk
    · exact do_try w0 a cap ms D H s who r pd pl cd cl w hm hc hc' h hbw hr hMD hMH hok hwho g hf hk

/-- a region that stores a state (operation 3) and what came of it (operation 4) -/
structure CR (R8 R9 : Nat) (K : World → Value → Prop) (x : Array Value) (W0 : World) (d : Nat → Bool) (W : World) : Prop where
  kept : Kept (fun k => k = R8 ∨ k = R9) W0 W
  b8 : ∃ v0 v1, W.heap[R8]? = some (.cells #[v0, v1] 35 (0, 0)) ∧ (d 3 = true → K W (.agg #[v0, v1]))
  b9 : W.heap[R9]? = some (.cells (if d 4 then x else #[.int .i64 0, .int .i64 0, .slice none 0 0]) 37 (0, 0))
  ne : R8 ≠ R9
theorem CR.step {R8 R9 : Nat} {K : World → Value → Prop} {x : Array Value} {W0 W : World} {d : Nat → Bool} {i : Nat} (h3 : 3 ≠ i) (h4 : 4 ≠ i) (h : CR R8 R9 K x W0 d W) : CR R8 R9 K x W0 (updB d i) W :=
  ⟨h.kept, by rw [updB_ne d h3]; exact h.b8, by rw [updB_ne d h4]; exact h.b9, h.ne⟩
theorem CR.grow {R8 R9 : Nat} {K : World → Value → Prop} {x : Array Value} {W0 W W' : World} {d : Nat → Bool} {i : Nat} (hKg : ∀ w w' v, Gr w w' → K w v → K w' v) (h3 : 3 ≠ i) (h4 : 4 ≠ i) (h : CR R8 R9 K x W0 d W) (hg : Gr W W') : CR R8 R9 K x W0 (updB d i) W' := by
  refine ⟨h.kept.trans (Kept.of_below hg), ?_, by rw [updB_ne d h4]; exact hg.cells h.b9, h.ne⟩
  rw [updB_ne d h3]
  obtain ⟨v0, v1, h1, h2⟩ := h.b8
  exact ⟨v0, v1, hg.cells h1, fun hd => hKg _ _ _ hg (h2 hd)⟩
theorem CR.st {R8 R9 : Nat} {K : World → Value → Prop} {x : Array Value} {W0 W : World} {d : Nat → Bool} {v0 v1 : Value} (hKk : ∀ w w' v, Kept (fun k => k = R8 ∨ k = R9) w w' → K w v → K w' v) (h : CR R8 R9 K x W0 d W) (hv : K W (.agg #[v0, v1])) : CR R8 R9 K x W0 (updB d 3) ((W.setCell ⟨R8, 0, none⟩ v0).setCell ⟨R8, 1, none⟩ v1) := by
  have hk : Kept (fun k => k = R8 ∨ k = R9) W ((W.setCell ⟨R8, 0, none⟩ v0).setCell ⟨R8, 1, none⟩ v1) := (Kept.setCell (D := fun k => k = R8 ∨ k = R9) (p := ⟨R8, 0, none⟩) _ (.inl rfl) _).trans (Kept.setCell (D := fun k => k = R8 ∨ k = R9) (p := ⟨R8, 1, none⟩) _ (.inl rfl) _)
  obtain ⟨u0, u1, h1, h2⟩ := h.b8
  have hne := h.ne
  refine ⟨h.kept.trans hk, ⟨v0, v1, (heap_set (heap_set h1 0 v0) 1 v1).trans rfl, fun _ => hKk _ _ _ hk hv⟩, ?_, h.ne⟩
  rw [updB_ne d (by decide : (4 : Nat) ≠ 3)]
  exact (heap_set_ne (Ne.symm hne)).trans ((heap_set_ne (Ne.symm hne)).trans h.b9)
theorem CR.rs {R8 R9 : Nat} {K : World → Value → Prop} {x : Array Value} {W0 W : World} {d : Nat → Bool} {x0 x1 x2 : Value} (hKk : ∀ w w' v, Kept (fun k => k = R8 ∨ k = R9) w w' → K w v → K w' v) (h : CR R8 R9 K x W0 d W) (hx : x = #[x0, x1, x2]) (hd : d 4 = false) : CR R8 R9 K x W0 (updB d 4) (((W.setCell ⟨R9, 0, none⟩ x0).setCell ⟨R9, 1, none⟩ x1).setCell ⟨R9, 2, none⟩ x2) := by
  have hk := kept3 (fun k => k = R8 ∨ k = R9) W (b := R9) (.inr rfl) x0 x1 x2
  obtain ⟨u0, u1, h1, h2⟩ := h.b8
  have hne := h.ne
  have h9 := h.b9
  rw [hd] at h9
  refine ⟨h.kept.trans hk, ?_, ?_, h.ne⟩
  · rw [updB_ne d (by decide : (3 : Nat) ≠ 4)]
    exact ⟨u0, u1, (heap_set_ne hne).trans ((heap_set_ne hne).trans ((heap_set_ne hne).trans h1)), fun hd => hKk _ _ _ hk (h2 hd)⟩
  · rw [updB_self, hx]
    exact set3 h9 x0 x1 x2

def fl_atmE (D R8 R9 X : Nat) (K : World → Value → Prop) (x : Array Value) : List Fact := [
  fIs 31 (.pointer (some ⟨D, 0, none⟩)),
  fK 32 K,
  fIs 33 (.agg x),
  ⟨[], [], fun _ _ _ => True⟩,
  ⟨[], [], fun _ _ _ => True⟩]

theorem st_atmE (D R8 R9 X : Nat) (K : World → Value → Prop) (x : Array Value) (hKg : ∀ w w' v, Gr w w' → K w v → K w' v) : ∀ F ∈ fl_atmE D R8 R9 X K x, F.Stab :=
  stab_cons (fIs_stab _ _) <|
  stab_cons (fK_stab hKg) <|
  stab_cons (fIs_stab _ _) <|
  stab_cons (fun _ _ _ _ _ h => h) <|
  stab_cons (fun _ _ _ _ _ h => h) stab_nil

theorem kept_atmE (D R8 R9 X : Nat) (K : World → Value → Prop) (x : Array Value) (hKk : ∀ w w' v, Kept (fun k => k = R8 ∨ k = R9) w w' → K w v → K w' v) : ∀ j, ([] : List Nat).contains j = false → ∀ s d w w', Kept (fun k => k = R8 ∨ k = R9) w w' → (factsOf (fl_atmE D R8 R9 X K x) j).body s d w → (factsOf (fl_atmE D R8 R9 X K x) j).body s d w' := by
  intro j _ s d w w' hk hb
  rcases j with _ | _ | _ | _ | _ | j
  case succ.zero => exact hKk _ _ _ hk hb
  all_goals exact hb

theorem atmZ_no {ms : List Rng} {s : Stt} {who : Int} {r : Req} (h : atmOkB ms s who r = false) : atmZ ms s who r = (⟨[], []⟩, ⟨0, 0, []⟩) := by unfold atmZ; rw [h]; rfl
theorem atmZ_ok {ms : List Rng} {s : Stt} {who : Int} {r : Req} (h : atmOkB ms s who r = true) : atmZ ms s who r = atmDo ms s who r := by unfold atmZ; rw [h]; rfl
theorem atmOk_eq (ms : List Rng) (s : Stt) (who : Int) (r : Req) : atmOkB ms s who r = ((mapOkB ms && (stOkB s && inB who 0 2)) && reqOkB r) := by
  unfold atmOkB
  cases mapOkB ms <;> cases stOkB s <;> cases inB who 0 2 <;> cases reqOkB r <;> rfl

set_option maxRecDepth 100000 in
set_option maxHeartbeats 1000000 in
theorem impl_AtmDo : AtmDoC := by
  intro a cap ms s pw ph cw ch who r pd pl cd cl w hm hc hc' hs hr
  have HM := Hid.intro hm
  have HS := Hid.intro hs
  have HR := Hid.intro hr
  have HMB := Hid.intro (fun W h1 h2 => mayBegin_any a cap ms s pw ph cw ch who W h1 hc hc' h2)
  have HRQ := Hid.intro (fun W h => impl_ReqOk r pd pl cd cl W h)
  have HOP := Hid.intro (fun W h1 h2 => deskOpen_any s pw ph cw ch W h1 h2)
  have HDO := Hid.intro (fun D H W h2 h3 h4 h5 h6 h7 h8 => do_any w a cap ms D H s who r pd pl cd cl W hm hc hc' h2 h3 hr h4 h5 h6 h7 h8)
  have HE := Hid.intro (atmOk_eq ms s who r)
  clear hm hs hr
  generalize hzz0 : atmZ ms s who r = z
  have HZZ := Hid.intro hzz0
  clear hzz0
  unfold stV reqV
  unfold stV at HMB HOP
  unfold reqV at HRQ HDO
  go_enter Tryz.func12, Tryz.ntmps12
  go_wp2_with fail
  obtain ⟨W0, hW0⟩ : ∃ W0, (((w.alloc (.cells #[.slice pw s.words.length cw, .slice ph s.holds.length ch] 35)).alloc (.cells #[.int .i64 r.id, .int .i64 r.kind, .int .i64 r.addr, .int .i64 r.many, .bool r.wrap, .slice pd r.data.length cd, .slice pl r.lanes.length cl] 43)).alloc (.cells #[.slice none 0 0, .slice none 0 0] 35)).alloc (.cells #[.int .i64 0, .int .i64 0, .slice none 0 0] 37) = W0 := ⟨_, rfl⟩
  have hb0 : Below w.heap.size w W0 := by rw [← hW0]; exact ((((Below.refl _ w).alloc (Nat.le_refl _) _).alloc (by simp) _).alloc (by simp <;> omega) _).alloc (by simp <;> omega) _
  have h50 : W0.heap[w.heap.size]? = some (.cells #[.slice pw s.words.length cw, .slice ph s.holds.length ch] 35 (0, 0)) := by rw [← hW0]; exact (Below.heap_alloc _ _ _ (by simp <;> omega)).trans ((Below.heap_alloc _ _ _ (by simp <;> omega)).trans ((Below.heap_alloc _ _ _ (by simp)).trans (nw_at _ rfl)))
  have h70 : W0.heap[w.heap.size + 1]? = some (.cells #[.int .i64 r.id, .int .i64 r.kind, .int .i64 r.addr, .int .i64 r.many, .bool r.wrap, .slice pd r.data.length cd, .slice pl r.lanes.length cl] 43 (0, 0)) := by rw [← hW0]; exact (Below.heap_alloc _ _ _ (by simp <;> omega)).trans ((Below.heap_alloc _ _ _ (by simp)).trans (nw_at _ (by simp)))
  have h80 : W0.heap[w.heap.size + 1 + 1]? = some (.cells #[.slice none 0 0, .slice none 0 0] 35 (0, 0)) := by rw [← hW0]; exact (Below.heap_alloc _ _ _ (by simp)).trans (nw_at _ (by simp))
  have h90 : W0.heap[w.heap.size + 1 + 1 + 1]? = some (.cells #[.int .i64 0, .int .i64 0, .slice none 0 0] 37 (0, 0)) := by rw [← hW0]; exact nw_at _ (by simp)
  rw [hW0]
  clear hW0
  refine (HMB.out W0 (HM.out.below hb0) (HS.out.below hb0)).mono ?_
  rintro e w1 ⟨rfl, hb1⟩
  have h51 := (hb1.block _ (heap_lt h50)).trans h50
  have h71 := (hb1.block _ (heap_lt h70)).trans h70
  have h81 := (hb1.block _ (heap_lt h80)).trans h80
  have h91 := (hb1.block _ (heap_lt h90)).trans h90
  have hb1' := hb0.trans (hb1.mono hb0.size)
  clear hb1 hb0 h50 h70 h80 h90 HMB
  cases hmb : (mapOkB ms && (stOkB s && inB who 0 2))
  · have HN := Hid.intro (atmZ_no (ms := ms) (s := s) (who := who) (r := r) (by rw [HE.out, hmb]; rfl))
    have r0 : w1.cell? ⟨w.heap.size + 1 + 1, 0, none⟩ = some (.slice none 0 0) := heap_cell h81 0
    have r1 : w1.cell? ⟨w.heap.size + 1 + 1, 1, none⟩ = some (.slice none 0 0) := heap_cell h81 1
    have r2 : w1.cell? ⟨w.heap.size + 1 + 1 + 1, 0, none⟩ = some (.int .i64 0) := heap_cell h91 0
    have r3 : w1.cell? ⟨w.heap.size + 1 + 1 + 1, 1, none⟩ = some (.int .i64 0) := heap_cell h91 1
    have r4 : w1.cell? ⟨w.heap.size + 1 + 1 + 1, 2, none⟩ = some (.slice none 0 0) := heap_cell h91 2
    have f0 := heap_free h81 0
    have f1 := heap_free h81 1
    have f2 := heap_free h91 0
    have f3 := heap_free h91 1
    have f4 := heap_free h91 2
    have hl8 := heap_lt h81
    have hl9 := heap_lt h91
    have p8 := pair8 (R8 := w.heap.size + 1 + 1) (R9 := w.heap.size + 1 + 1 + 1) h81 (by omega) (.slice none 0 0) (.slice none 0 0) (.int .i64 0) (.int .i64 0) (.slice none 0 0)
    have p9 := pair9 (R8 := w.heap.size + 1 + 1) (R9 := w.heap.size + 1 + 1 + 1) h91 (by omega) (.slice none 0 0) (.slice none 0 0) (.int .i64 0) (.int .i64 0) (.slice none 0 0)
    have HK := Hid.intro (pairK w1 (w.heap.size + 1 + 1) (w.heap.size + 1 + 1 + 1) (.slice none 0 0) (.slice none 0 0) (.int .i64 0) (.int .i64 0) (.slice none 0 0))
    have s0 := heap_cell p8 0
    have s1 := heap_cell p8 1
    have y0 := heap_cell p9 0
    have y1 := heap_cell p9 1
    have y2 := heap_cell p9 2
    simp [pairW] at s0 s1 y0 y1 y2
    have HP8 := Hid.intro p8
    clear p8 p9 h81 h91
    go_wp2
    refine bodyPost_ret (v := .tuple #[.agg #[.slice none 0 0, .slice none 0 0], .agg #[.int .i64 0, .int .i64 0, .slice none 0 0]]) (by simp [results, Tryz.results12, go_sem, s0, s1, y0, y1, y2]) rfl ?_
    rw [← HZZ.out, HN.out]
    have hK := HK.out
    have hsz := hb1'.size
    exact ⟨none, 0, none, 0, none, 0, rfl, ⟨.inl rfl, .inl rfl, .inl rfl, Nat.le_refl _, by omega, Nat.le_refl _, by omega, Nat.le_refl _, by omega, .inl rfl, .inl rfl, .inl rfl⟩, hK.os.trans hb1'.os, hK.tape.trans hb1'.tape, hK.output.trans hb1'.output, Nat.le_trans hsz hK.size, fun k hk => (hK.block k (by omega) (by omega)).trans (hb1'.block k hk)⟩
  have q0 : w1.cell? ⟨w.heap.size + 1, 0, none⟩ = some (.int .i64 r.id) := heap_cell h71 0
  have q1 : w1.cell? ⟨w.heap.size + 1, 1, none⟩ = some (.int .i64 r.kind) := heap_cell h71 1
  have q2 : w1.cell? ⟨w.heap.size + 1, 2, none⟩ = some (.int .i64 r.addr) := heap_cell h71 2
  have q3 : w1.cell? ⟨w.heap.size + 1, 3, none⟩ = some (.int .i64 r.many) := heap_cell h71 3
  have q4 : w1.cell? ⟨w.heap.size + 1, 4, none⟩ = some (.bool r.wrap) := heap_cell h71 4
  have q5 : w1.cell? ⟨w.heap.size + 1, 5, none⟩ = some (.slice pd r.data.length cd) := heap_cell h71 5
  have q6 : w1.cell? ⟨w.heap.size + 1, 6, none⟩ = some (.slice pl r.lanes.length cl) := heap_cell h71 6
  go_wp2_with fail
  refine (HRQ.out w1 (HR.out.below hb1')).mono ?_
  rintro e w2 ⟨rfl, hb2⟩
  have h52 := (hb2.block _ (heap_lt h51)).trans h51
  have h72 := (hb2.block _ (heap_lt h71)).trans h71
  have h82 := (hb2.block _ (heap_lt h81)).trans h81
  have h92 := (hb2.block _ (heap_lt h91)).trans h91
  have hb2' := hb1'.trans (hb2.mono hb1'.size)
  clear hb2 hb1' h51 h71 h81 h91 HRQ q0 q1 q2 q3 q4 q5 q6
  cases hrq : reqOkB r
  · have HN := Hid.intro (atmZ_no (ms := ms) (s := s) (who := who) (r := r) (by rw [HE.out, hmb, hrq]; rfl))
    have r0 : w2.cell? ⟨w.heap.size + 1 + 1, 0, none⟩ = some (.slice none 0 0) := heap_cell h82 0
    have r1 : w2.cell? ⟨w.heap.size + 1 + 1, 1, none⟩ = some (.slice none 0 0) := heap_cell h82 1
    have r2 : w2.cell? ⟨w.heap.size + 1 + 1 + 1, 0, none⟩ = some (.int .i64 0) := heap_cell h92 0
    have r3 : w2.cell? ⟨w.heap.size + 1 + 1 + 1, 1, none⟩ = some (.int .i64 0) := heap_cell h92 1
    have r4 : w2.cell? ⟨w.heap.size + 1 + 1 + 1, 2, none⟩ = some (.slice none 0 0) := heap_cell h92 2
    have f0 := heap_free h82 0
    have f1 := heap_free h82 1
    have f2 := heap_free h92 0
    have f3 := heap_free h92 1
    have f4 := heap_free h92 2
    have hl8 := heap_lt h82
    have hl9 := heap_lt h92
    have p8 := pair8 (R8 := w.heap.size + 1 + 1) (R9 := w.heap.size + 1 + 1 + 1) h82 (by omega) (.slice none 0 0) (.slice none 0 0) (.int .i64 0) (.int .i64 0) (.slice none 0 0)
    have p9 := pair9 (R8 := w.heap.size + 1 + 1) (R9 := w.heap.size + 1 + 1 + 1) h92 (by omega) (.slice none 0 0) (.slice none 0 0) (.int .i64 0) (.int .i64 0) (.slice none 0 0)
    have HK := Hid.intro (pairK w2 (w.heap.size + 1 + 1) (w.heap.size + 1 + 1 + 1) (.slice none 0 0) (.slice none 0 0) (.int .i64 0) (.int .i64 0) (.slice none 0 0))
    have s0 := heap_cell p8 0
    have s1 := heap_cell p8 1
    have y0 := heap_cell p9 0
    have y1 := heap_cell p9 1
    have y2 := heap_cell p9 2
    simp [pairW] at s0 s1 y0 y1 y2
    have HP8 := Hid.intro p8
    clear p8 p9 h82 h92
    go_wp2
    refine bodyPost_ret (v := .tuple #[.agg #[.slice none 0 0, .slice none 0 0], .agg #[.int .i64 0, .int .i64 0, .slice none 0 0]]) (by simp [results, Tryz.results12, go_sem, s0, s1, y0, y1, y2]) rfl ?_
    rw [← HZZ.out, HN.out]
    have hK := HK.out
    have hsz := hb2'.size
    exact ⟨none, 0, none, 0, none, 0, rfl, ⟨.inl rfl, .inl rfl, .inl rfl, Nat.le_refl _, by omega, Nat.le_refl _, by omega, Nat.le_refl _, by omega, .inl rfl, .inl rfl, .inl rfl⟩, hK.os.trans hb2'.os, hK.tape.trans hb2'.tape, hK.output.trans hb2'.output, Nat.le_trans hsz hK.size, fun k hk => (hK.block k (by omega) (by omega)).trans (hb2'.block k hk)⟩
  have HOK : Hid (atmOkB ms s who r = true) := Hid.intro (by rw [HE.out, hmb, hrq]; rfl)
  have HZ := Hid.intro (atmZ_ok HOK.out)
  obtain ⟨hmo, hwo, hho, hhi, hwho, hro⟩ := atmOk_parts HOK.out
  have HST0 : Hid (stOkB s = true) := Hid.intro (by simp [stOkB, hwo, hho, hhi])
  clear hwo hhi hho hmb hrq
  have c0 : w2.cell? ⟨w.heap.size, 0, none⟩ = some (.slice pw s.words.length cw) := heap_cell h52 0
  have c1 : w2.cell? ⟨w.heap.size, 1, none⟩ = some (.slice ph s.holds.length ch) := heap_cell h52 1
  go_wp2_with fail
  refine (HOP.out w2 (HS.out.below hb2') HST0.out).mono ?_
  rintro e w3 ⟨D, H, rfl, hD3, hDg, hHg, hb3⟩
  have hs2 := hb2'.size
  have h73 := (hb3.block _ (heap_lt h72)).trans h72
  have h83 := (hb3.block _ (heap_lt h82)).trans h82
  have h93 := (hb3.block _ (heap_lt h92)).trans h92
  have hl92 := heap_lt h92
  have hb3' := hb2'.trans (hb3.mono hb2'.size)
  clear hb3 hb2' h52 h72 h82 h92 HOP c0 c1
  have q0 : w3.cell? ⟨w.heap.size + 1, 0, none⟩ = some (.int .i64 r.id) := heap_cell h73 0
  have q1 : w3.cell? ⟨w.heap.size + 1, 1, none⟩ = some (.int .i64 r.kind) := heap_cell h73 1
  have q2 : w3.cell? ⟨w.heap.size + 1, 2, none⟩ = some (.int .i64 r.addr) := heap_cell h73 2
  have q3 : w3.cell? ⟨w.heap.size + 1, 3, none⟩ = some (.int .i64 r.many) := heap_cell h73 3
  have q4 : w3.cell? ⟨w.heap.size + 1, 4, none⟩ = some (.bool r.wrap) := heap_cell h73 4
  have q5 : w3.cell? ⟨w.heap.size + 1, 5, none⟩ = some (.slice pd r.data.length cd) := heap_cell h73 5
  have q6 : w3.cell? ⟨w.heap.size + 1, 6, none⟩ = some (.slice pl r.lanes.length cl) := heap_cell h73 6
  go_wp2_with fail
  refine (HDO.out D H w3 hD3 hb3' (by omega) (by omega) hmo hro hwho).mono ?_
  rintro e w4 ⟨px, cx, rfl, hO4, hcx1, hcx2, hD4, hk4⟩
  have hs3 := hb3'.size
  have hDl := hD3.ltD
  have hHl := hD3.ltH
  have h84 := (hk4.block _ (heap_lt h83) (by omega)).trans h83
  have h94 := (hk4.block _ (heap_lt h93) (by omega)).trans h93
  have hb4 : Below w.heap.size w w4 := hb3'.trans ⟨hk4.os, hk4.tape, hk4.output, hk4.size, fun k hk => hk4.block k (by omega) (by omega)⟩
  clear hD3 h73 h83 h93 hk4 hb3' HDO q0 q1 q2 q3 q4 q5 q6
  unfold rspV
  go_wp2_with fail
  have hO4' := hO4.mono hs3
  have hzz : atmDo ms s who r = z := HZ.out.symm.trans HZZ.out
  rw [hzz] at hO4 hO4' hcx1 hD4 ⊢
  clear hzz HZ HZZ
  obtain ⟨W1, hW1⟩ : ∃ W1, w4.alloc (.cells #[.int .i64 z.2.id, .int .i64 z.2.code, .slice px z.2.data.length cx] 37) = W1 := ⟨_, rfl⟩
  have hg1 : Gr w4 W1 := by rw [← hW1]; exact below_nw _ _
  have hX0 : W1.heap[w4.heap.size]? = some (.cells #[.int .i64 z.2.id, .int .i64 z.2.code, .slice px z.2.data.length cx] 37 (0, 0)) := by rw [← hW1]; exact nw_at _ rfl
  rw [hW1]
  clear hW1
  have hXl := heap_lt hX0
  have h85 := hg1.cells h84
  have h95 := hg1.cells h94
  have hD5 := hD4.gr hg1
  have hl9 := heap_lt h94
  have hXn : ¬ (w4.heap.size = w.heap.size + 1 + 1 ∨ w4.heap.size = w.heap.size + 1 + 1 + 1) := by omega
  obtain ⟨x, hxe⟩ : ∃ x : Array Value, x = #[.int .i64 z.2.id, .int .i64 z.2.code, .slice px z.2.data.length cx] := ⟨_, rfl⟩
  rw [← hxe] at hX0
  obtain ⟨K, hK⟩ : ∃ K : World → Value → Prop, K = fun W v => ∃ g g', v = .agg #[.slice (some ⟨g, 0, none⟩) 64 64, .slice (some ⟨g', 0, none⟩) 6 6] ∧ ORow 3 1 W g 64 64 (z.1.words.map (Value.int .i64)) ∧ ORow 3 1 W g' 6 6 (z.1.holds.map (Value.int .i64)) ∧ w4.heap.size ≤ g ∧ w4.heap.size ≤ g' ∧ g ≠ g' := ⟨_, rfl⟩
  have hKg : ∀ w w' v, Gr w w' → K w v → K w' v := by
    rw [hK]; rintro w w' v hg ⟨g, g', h1, h2, h3, h4⟩; exact ⟨g, g', h1, h2.gr hg, h3.gr hg, h4⟩
  have hKk : ∀ wa wb v, Kept (fun k => k = w.heap.size + 1 + 1 ∨ k = w.heap.size + 1 + 1 + 1) wa wb → K wa v → K wb v := by
    rw [hK]; rintro wa wb v hk ⟨g, g', h1, h2, h3, h4, h5, h6⟩; exact ⟨g, g', h1, h2.of (hk.block g h2.lt (by omega)), h3.of (hk.block g' h3.lt (by omega)), h4, h5, h6⟩
  have hK1 : ∀ W v, K W v → ∃ v0 v1, v = .agg #[v0, v1] ∧ (∃ p n c, v0 = .slice p n c) ∧ (∃ p n c, v1 = .slice p n c) := by
    rw [hK]; rintro W v ⟨g, g', h1, _⟩; exact ⟨_, _, h1, ⟨_, _, _, rfl⟩, ⟨_, _, _, rfl⟩⟩
  have HST : Hid (∀ W, Kept (fun k => k = w.heap.size + 1 + 1 ∨ k = w.heap.size + 1 + 1 + 1) W1 W → Calls Tryz.prog 47 #[.pointer (some ⟨D, 0, none⟩)] W fun e w' => (∃ v, e = .returned v ∧ K w' v) ∧ Below W.heap.size W w') := by
    refine Hid.intro (fun W hW => ?_)
    have hs1 := hg1.size
    have hs2 := hW.size
    refine (state_any D H z.1 W (hD5.of (hW.block _ hD5.ltD (by omega)) (hW.block _ hD5.ltH (by omega)))).mono ?_
    rintro e w' ⟨g, g', rfl, h1, h2, h3, h4, h5, hb⟩
    exact ⟨⟨_, rfl, by rw [hK]; exact ⟨g, g', rfl, h1, h2, by omega, by omega, h5⟩⟩, hb⟩
  obtain ⟨W0, hW0⟩ : ∃ W0, W0 = W1 := ⟨_, rfl⟩
  rw [← hW0] at hX0 h85 h95 hD5 HST ⊢
  have hXl0 : w4.heap.size < W0.heap.size := heap_lt hX0
  have hxs : x = #[.int .i64 z.2.id, .int .i64 z.2.code, .slice px z.2.data.length cx] := hxe
  refine wp_region_fl (by kernel_rfl) (fl_atmE D (w.heap.size + 1 + 1) (w.heap.size + 1 + 1 + 1) w4.heap.size K x) (CR (w.heap.size + 1 + 1) (w.heap.size + 1 + 1 + 1) K x W0) [31, 32, 33] (by kernel_rfl) (by kernel_rfl) (by kernel_rfl) ?c0 ?looks ?done
  case looks =>
    intro hcl i o ho
    rcases i with _ | _ | _ | _ | _ | i
    · simp at ho; subst ho
      refine fo_det (st_atmE D (w.heap.size + 1 + 1) (w.heap.size + 1 + 1 + 1) w4.heap.size K x hKg) hcl rfl rfl rfl rfl (by kernel_rfl) (fun _ _ h => CR.step (by decide) (by decide) h) (fun done ρ W hat => ?_)
      have e10 : ρ (.tmp 10) = .pointer (some ⟨D, 0, none⟩) := hat.out 10 (by kernel_rfl)
      have hC := hat.cls
      have hc := hat.con
      simp only [execOp, e10]
      go_simp
    · simp at ho; subst ho
      refine fo_grow (st_atmE D (w.heap.size + 1 + 1) (w.heap.size + 1 + 1 + 1) w4.heap.size K x hKg) hcl rfl rfl (fun done ρ W hat => ?_)
      have e31 : ρ (.tmp 31) = .pointer (some ⟨D, 0, none⟩) := fIs_at (d := 31) (v := .pointer (some ⟨D, 0, none⟩)) (hat.fact 0 (by kernel_rfl))
      have hC := hat.cls
      have hf := hat.fn
      refine up_call 47 #[.pointer (some ⟨D, 0, none⟩)] (by simp only [execOp]; go_simp) ?_
      refine (HST.out W hC.kept).mono ?_
      rintro e W1 ⟨⟨v, rfl, hKv⟩, hb⟩
      exact ⟨v, rfl, CR.grow hKg (by decide) (by decide) hC hb, hb, fK_mk (by rw [updV_same]; exact hKv), free_spec (by kernel_rfl) hat.lt⟩
    · simp at ho; subst ho
      refine fo_det (st_atmE D (w.heap.size + 1 + 1) (w.heap.size + 1 + 1 + 1) w4.heap.size K x hKg) hcl rfl rfl rfl rfl (by kernel_rfl) (fun _ _ h => CR.step (by decide) (by decide) h) (fun done ρ W hat => ?_)
      have e11 : ρ (.tmp 11) = .pointer (some ⟨w4.heap.size, 0, none⟩) := hat.out 11 (by kernel_rfl)
      have hC := hat.cls
      have hx := (hC.kept.block w4.heap.size hXl0 hXn).trans hX0
      rw [hxs] at hx
      have y0 : W.cell? ⟨w4.heap.size, 0, none⟩ = some (.int .i64 z.2.id) := heap_cell hx 0
      have y1 : W.cell? ⟨w4.heap.size, 1, none⟩ = some (.int .i64 z.2.code) := heap_cell hx 1
      have y2 : W.cell? ⟨w4.heap.size, 2, none⟩ = some (.slice px z.2.data.length cx) := heap_cell hx 2
      rw [hxs]
      clear hxs hxe
      have hc := hat.con
      simp only [execOp, e11]
      go_simp
    · simp at ho; subst ho
      refine fo_rel (S := Kept (fun k => k = w.heap.size + 1 + 1 ∨ k = w.heap.size + 1 + 1 + 1)) (E := []) (kept_atmE D (w.heap.size + 1 + 1) (w.heap.size + 1 + 1 + 1) w4.heap.size K x hKk) hcl rfl rfl (fun done ρ W hat => ?_)
      have e8 : ρ (.tmp 8) = .pointer (some ⟨(w.heap.size + 1 + 1), 0, none⟩) := hat.out 8 (by kernel_rfl)
      have hC := hat.cls
      have hKv : K W (ρ (.tmp 32)) := fK_at (d := 32) (K := K) (hat.fact 1 (by kernel_rfl))
      obtain ⟨v0, v1, e32, o0, o1⟩ := hK1 _ _ hKv
      obtain ⟨u0, u1, hbx, hu⟩ := hC.b8
      have c0 : W.cell? ⟨w.heap.size + 1 + 1, 0, none⟩ = some u0 := heap_cell hbx 0
      have c1 : W.cell? ⟨w.heap.size + 1 + 1, 1, none⟩ = some u1 := heap_cell hbx 1
      have f0 := heap_free hbx 0
      have f1 := heap_free hbx 1
      obtain ⟨p0, n0, k0, rfl⟩ := o0
      obtain ⟨p1, n1, k1, rfl⟩ := o1
      refine up_skip ((W.setCell ⟨w.heap.size + 1 + 1, 0, none⟩ (.slice p0 n0 k0)).setCell ⟨w.heap.size + 1 + 1, 1, none⟩ (.slice p1 n1 k1)) (by simp only [execOp, e32]; go_simp) ⟨hC.st hKk (by rw [← e32]; exact hKv), (Kept.setCell (D := fun k => k = w.heap.size + 1 + 1 ∨ k = w.heap.size + 1 + 1 + 1) (p := ⟨w.heap.size + 1 + 1, 0, none⟩) _ (.inl rfl) _).trans (Kept.setCell (D := fun k => k = w.heap.size + 1 + 1 ∨ k = w.heap.size + 1 + 1 + 1) (p := ⟨w.heap.size + 1 + 1, 1, none⟩) _ (.inl rfl) _), trivial, fun j hj hcj => ?_⟩
      exact free_spec (X := fun _ => _) (by kernel_rfl) hat.lt j hj (by simpa using hcj)
    · simp at ho; subst ho
      refine fo_rel (S := Kept (fun k => k = w.heap.size + 1 + 1 ∨ k = w.heap.size + 1 + 1 + 1)) (E := []) (kept_atmE D (w.heap.size + 1 + 1) (w.heap.size + 1 + 1 + 1) w4.heap.size K x hKk) hcl rfl rfl (fun done ρ W hat => ?_)
      have e9 : ρ (.tmp 9) = .pointer (some ⟨(w.heap.size + 1 + 1 + 1), 0, none⟩) := hat.out 9 (by kernel_rfl)
      have e33 : ρ (.tmp 33) = .agg x := fIs_at (d := 33) (v := .agg x) (hat.fact 2 (by kernel_rfl))
      have hC := hat.cls
      have hbx := hC.b9
      rw [hat.new] at hbx
      have c0 : W.cell? ⟨w.heap.size + 1 + 1 + 1, 0, none⟩ = some (.int .i64 0) := heap_cell hbx 0
      have c1 : W.cell? ⟨w.heap.size + 1 + 1 + 1, 1, none⟩ = some (.int .i64 0) := heap_cell hbx 1
      have c2 : W.cell? ⟨w.heap.size + 1 + 1 + 1, 2, none⟩ = some (.slice none 0 0) := heap_cell hbx 2
      have f0 := heap_free hbx 0
      have f1 := heap_free hbx 1
      have f2 := heap_free hbx 2
      rw [hxs] at e33
      refine up_skip (((W.setCell ⟨w.heap.size + 1 + 1 + 1, 0, none⟩ (.int .i64 z.2.id)).setCell ⟨w.heap.size + 1 + 1 + 1, 1, none⟩ (.int .i64 z.2.code)).setCell ⟨w.heap.size + 1 + 1 + 1, 2, none⟩ (.slice px z.2.data.length cx)) (by clear hxs hxe; simp only [execOp, e33]; go_simp) ⟨hC.rs hKk hxs hat.new, kept3 (fun k => k = w.heap.size + 1 + 1 ∨ k = w.heap.size + 1 + 1 + 1) W (.inr rfl) _ _ _, trivial, fun j hj hcj => ?_⟩
      exact free_spec (X := fun _ => _) (by kernel_rfl) hat.lt j hj (by simpa using hcj)
    · simp at ho
  case c0 => exact ⟨Kept.drew _ _, ⟨_, _, h85, fun h => by cases h⟩, h95, by omega⟩
  case done =>
    intro f W hC hf hout
    obtain ⟨v0, v1, h8, hv⟩ := hC.b8
    have hKv := hv rfl
    rw [hK] at hKv
    obtain ⟨g, g', e, o1, o2, o3, o4, o5⟩ := hKv
    cases e
    have h9 : W.heap[w.heap.size + 1 + 1 + 1]? = some (.cells x 37 (0, 0)) := hC.b9
    rw [hxe] at h9
    have s0 : W.cell? ⟨w.heap.size + 1 + 1, 0, none⟩ = some (.slice (some ⟨g, 0, none⟩) 64 64) := heap_cell h8 0
    have s1 : W.cell? ⟨w.heap.size + 1 + 1, 1, none⟩ = some (.slice (some ⟨g', 0, none⟩) 6 6) := heap_cell h8 1
    have y0 : W.cell? ⟨w.heap.size + 1 + 1 + 1, 0, none⟩ = some (.int .i64 z.2.id) := heap_cell h9 0
    have y1 : W.cell? ⟨w.heap.size + 1 + 1 + 1, 1, none⟩ = some (.int .i64 z.2.code) := heap_cell h9 1
    have y2 : W.cell? ⟨w.heap.size + 1 + 1 + 1, 2, none⟩ = some (.slice px z.2.data.length cx) := heap_cell h9 2
    have hk := hC.kept
    have hw64 := hD5.wl
    have hh6 := hD5.hl
    have hg1' : Gr w4 W0 := by rw [hW0]; exact hg1
    have hpx : ∀ b, px = some ⟨b, 0, none⟩ → z.2.data ≠ [] → w3.heap.size ≤ b ∧ b < w4.heap.size := fun b hb hne => by
      rcases hO4 with h | ⟨g2, h1, h2, h3⟩
      · exact absurd h hne
      · rw [hb] at h1; cases h1; exact ⟨h2, h3.lt⟩
    have HO : Hid (AtmOut w.heap.size W z.1 z.2 (some ⟨g, 0, none⟩) 64 (some ⟨g', 0, none⟩) 6 px cx) := by
      have hs4 := hb4.size
      refine Hid.intro ⟨.inr ⟨g, rfl, by omega, by rw [hw64]; exact o1⟩, .inr ⟨g', rfl, by omega, by rw [hh6]; exact o2⟩, ?_, by omega, by omega, by omega, by omega, hcx1, hcx2, .inr (.inr (fun e => o5 (by cases e; rfl))), ?_, ?_⟩
      · by_cases hne : z.2.data = []
        · exact .inl hne
        · exact (hO4'.below hg1').of (fun b hb hlt => hk.block b hlt (by have := hpx b hb hne; omega))
      · by_cases hne : z.2.data = []
        · exact .inr (.inl hne)
        · exact .inr (.inr (fun e => by have := hpx g e.symm hne; omega))
      · by_cases hne : z.2.data = []
        · exact .inr (.inl hne)
        · exact .inr (.inr (fun e => by have := hpx g' e.symm hne; omega))
    have HB : Hid (Below w.heap.size w W) := by
      have hs4 := hb4.size
      have hs5 := hg1'.size
      exact Hid.intro (hb4.trans ((hg1'.mono hs4).trans ⟨hk.os, hk.tape, hk.output, hk.size, fun k hk' => hk.block k (by omega) (by omega)⟩))
    clear hf hout hC hk hO4 hO4' h8 h9 o1 o2 hv
    simp only [fill]
    go_simp
    go_wp2
    refine bodyPost_ret (v := .tuple #[.agg #[.slice (some ⟨g, 0, none⟩) 64 64, .slice (some ⟨g', 0, none⟩) 6 6], .agg #[.int .i64 z.2.id, .int .i64 z.2.code, .slice px z.2.data.length cx]]) (by simp [results, Tryz.results12, go_sem, s0, s1, y0, y1, y2]) rfl ?_
    refine ⟨some ⟨g, 0, none⟩, 64, some ⟨g', 0, none⟩, 6, px, cx, ?_, HO.out, HB.out⟩
    rw [hw64, hh6]; rfl

end Go.Proofs.YtpbkpfdbdfnlbaaGreat
