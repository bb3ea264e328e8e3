/-
  AtmDo of the program.
-/
import Derived.Test.YtpamjkkghghggaaGreatImpHM
import Derived.Test.YtpamjkkghghggaaGreatImplUM
import Derived.Test.YtpamjkkghghggaaGreatPairWM
/-
  What one asks, shown to the program's visitor; do, and AtmDo of the program.
-/
namespace Go.Proofs.YtpamjkkghghggaaGreat
open Go.RowKit
set_option linter.unusedSimpArgs false
set_option linter.unusedVariables false

/-- what comes of something in a range that answers it -/
def turnZ (s : Stt) (who : Int) (only : Bool) (r : Req) : Stt × Int × List Int :=
  if r.kind = 1 then (s, 1, getAll s.words (burst r.addr r.many r.wrap))
  else if r.kind = 3 then (⟨s.words, s.holds.set (atR who r.id).toNat r.addr⟩, 2, getAll s.words (burst r.addr r.many r.wrap))
  else if only = true then (s, 3, [])
  else if r.kind = 4 then (if getZ s.holds (atR who r.id) = r.addr then (⟨putAll s.words (burst r.addr r.many r.wrap) r.data r.lanes, freeAll s.holds (burst r.addr r.many r.wrap)⟩, 2, []) else (s, 1, []))
  else (⟨putAll s.words (burst r.addr r.many r.wrap) r.data r.lanes, freeAll s.holds (burst r.addr r.many r.wrap)⟩, 1, [])
/-- how a turn, and its desk, stand behind it -/
def TurnOut (w : World) (D H TB : Nat) (who nm : Int) (only : Bool) (z : Stt × Int × List Int) (w' : World) : Prop :=
  ∃ p c, w'.heap[TB]? = some (.cells (turnC D who nm only z.2.1 (.slice p z.2.2.length c)) 101 (0, 0)) ∧ OwnN w.heap.size w' p c z.2.2 ∧ z.2.2.length ≤ c ∧ c ≤ 9223372036854775807 ∧ Desk w' D H z.1 ∧ Kept (fun k => k = TB ∨ k = D ∨ k = H) w w'

theorem sees_read (w0 : World) (D H TB : Nat) (s : Stt) (who : Int) (only : Bool) (r : Req) (pd pl : Option Addr) (cd cl : Nat) (w : World) (h : Desk w D H s) (hT : w.heap[TB]? = some (.cells (turnC D who r.id only 0 (.slice none 0 0)) 101 (0, 0))) (hTD : TB ≠ D) (hTH : TB ≠ H) (hbw : Below w0.heap.size w0 w) (hr : ReqAt w0 r pd cd pl cl) (hMD : w0.heap.size ≤ D) (hMH : w0.heap.size ≤ H) (hMT : w0.heap.size ≤ TB) (hok : reqOkB r = true) (hwho : 0 ≤ who ∧ who ≤ 2) (hk : r.kind = 1) :
    Calls Tryz.prog 116 #[.pointer (some ⟨TB, 0, none⟩), reqV r pd cd pl cl] w fun e w' => (∃ v, e = .returned v) ∧ TurnOut w D H TB who r.id only (turnZ s who only r) w' := by
  refine (turn_read D H TB s who r.id only r pd pl cd cl w h hT hTD hTH (req_adr hok)).mono ?_
  rintro e w' ⟨hv, ⟨g, c, h1, h2, h3, h4, h5⟩, h6, h7⟩
  unfold TurnOut turnZ
  rw [if_pos hk]
  exact ⟨hv, some ⟨g, 0, none⟩, c, h1, .inr ⟨g, rfl, h5, h2⟩, h3, h4, h6, h7.mono (fun k e => .inl e)⟩

set_option maxRecDepth 100000 in
set_option maxHeartbeats 1000000 in
theorem shown_read (w0 : World) (D H TB : Nat) (s : Stt) (who : Int) (only : Bool) (r : Req) (pd pl : Option Addr) (cd cl : Nat) (w : World) (h : Desk w D H s) (hT : w.heap[TB]? = some (.cells (turnC D who r.id only 0 (.slice none 0 0)) 101 (0, 0))) (hTD : TB ≠ D) (hTH : TB ≠ H) (hbw : Below w0.heap.size w0 w) (hr : ReqAt w0 r pd cd pl cl) (hMD : w0.heap.size ≤ D) (hMH : w0.heap.size ≤ H) (hMT : w0.heap.size ≤ TB) (hok : reqOkB r = true) (hwho : 0 ≤ who ∧ who ≤ 2) (hk : r.kind = 1) :
    Calls Tryz.prog 109 #[reqV r pd cd pl cl, .iface 107 (.pointer (some ⟨TB, 0, none⟩))] w fun e w' => (∃ v, e = .returned v) ∧ TurnOut w D H TB who r.id only (turnZ s who only r) w' := by
  have hbl : ∀ o, Below w.heap.size w (w.alloc o) := fun o => (Below.refl _ w).alloc (Nat.le_refl _) o
  have hlt := heap_lt hT
  have HC := Hid.intro (fun o => sees_read w0 D H TB s who only r pd pl cd cl (w.alloc o) (h.gr (hbl o)) ((Below.heap_alloc _ _ _ hlt).trans hT) hTD hTH (hbw.trans ((hbl o).mono hbw.size)) hr hMD hMH hMT hok hwho hk)
  clear h hT hr hbw hk hok
  generalize turnZ s who only r = z at HC ⊢
  unfold reqV at HC ⊢
  go_enter Tryz.func109, Tryz.ntmps109
  go_wp2_with fail
  refine (HC.out _).mono ?_
  rintro e w1 ⟨⟨v, rfl⟩, p, c, h1, h2, h3, h4, h5, h6⟩
  have HP : Hid (TurnOut w D H TB who r.id only z w1) := Hid.intro ⟨p, c, h1, h2.mono (hbl _).size, h3, h4, h5, (Kept.of_below (hbl _)).trans h6⟩
  clear h1 h2 h3 h4 h5 h6 HC
  go_wp2
  go_returns
  exact ⟨⟨_, rfl⟩, HP.out⟩

theorem sees_write (w0 : World) (D H TB : Nat) (s : Stt) (who : Int) (only : Bool) (r : Req) (pd pl : Option Addr) (cd cl : Nat) (w : World) (h : Desk w D H s) (hT : w.heap[TB]? = some (.cells (turnC D who r.id only 0 (.slice none 0 0)) 101 (0, 0))) (hTD : TB ≠ D) (hTH : TB ≠ H) (hbw : Below w0.heap.size w0 w) (hr : ReqAt w0 r pd cd pl cl) (hMD : w0.heap.size ≤ D) (hMH : w0.heap.size ≤ H) (hMT : w0.heap.size ≤ TB) (hok : reqOkB r = true) (hwho : 0 ≤ who ∧ who ≤ 2) (hk : r.kind = 2) :
    Calls Tryz.prog 118 #[.pointer (some ⟨TB, 0, none⟩), reqV r pd cd pl cl] w fun e w' => (∃ v, e = .returned v) ∧ TurnOut w D H TB who r.id only (turnZ s who only r) w' := by
  obtain ⟨w1, w2, _, _⟩ := reqOk_words hok (.inl hk)
  refine (turn_write w0 D H TB s who r.id only r pd pl cd cl w h hT hTD hTH hbw hr hMD hMH hMT (req_adr hok) w1 w2).mono ?_
  rintro e w' ⟨hv, h1, h2, h3⟩
  unfold TurnOut turnZ
  rw [if_neg (by omega), if_neg (by omega)]
  cases only
  · simp only [Bool.false_eq_true, if_false] at h1 h2 ⊢
    rw [if_neg (by omega)]
    exact ⟨hv, none, 0, h1, .inl rfl, Nat.le_refl _, by omega, h2, h3⟩
  · simp only [if_true] at h1 h2 ⊢
    exact ⟨hv, none, 0, h1, .inl rfl, Nat.le_refl _, by omega, h2, h3⟩

set_option maxRecDepth 100000 in
set_option maxHeartbeats 1000000 in
theorem shown_write (w0 : World) (D H TB : Nat) (s : Stt) (who : Int) (only : Bool) (r : Req) (pd pl : Option Addr) (cd cl : Nat) (w : World) (h : Desk w D H s) (hT : w.heap[TB]? = some (.cells (turnC D who r.id only 0 (.slice none 0 0)) 101 (0, 0))) (hTD : TB ≠ D) (hTH : TB ≠ H) (hbw : Below w0.heap.size w0 w) (hr : ReqAt w0 r pd cd pl cl) (hMD : w0.heap.size ≤ D) (hMH : w0.heap.size ≤ H) (hMT : w0.heap.size ≤ TB) (hok : reqOkB r = true) (hwho : 0 ≤ who ∧ who ≤ 2) (hk : r.kind = 2) :
    Calls Tryz.prog 110 #[reqV r pd cd pl cl, .iface 107 (.pointer (some ⟨TB, 0, none⟩))] w fun e w' => (∃ v, e = .returned v) ∧ TurnOut w D H TB who r.id only (turnZ s who only r) w' := by
  have hbl : ∀ o, Below w.heap.size w (w.alloc o) := fun o => (Below.refl _ w).alloc (Nat.le_refl _) o
  have hlt := heap_lt hT
  have HC := Hid.intro (fun o => sees_write w0 D H TB s who only r pd pl cd cl (w.alloc o) (h.gr (hbl o)) ((Below.heap_alloc _ _ _ hlt).trans hT) hTD hTH (hbw.trans ((hbl o).mono hbw.size)) hr hMD hMH hMT hok hwho hk)
  clear h hT hr hbw hk hok
  generalize turnZ s who only r = z at HC ⊢
  unfold reqV at HC ⊢
  go_enter Tryz.func110, Tryz.ntmps110
  go_wp2_with fail
  refine (HC.out _).mono ?_
  rintro e w1 ⟨⟨v, rfl⟩, p, c, h1, h2, h3, h4, h5, h6⟩
  have HP : Hid (TurnOut w D H TB who r.id only z w1) := Hid.intro ⟨p, c, h1, h2.mono (hbl _).size, h3, h4, h5, (Kept.of_below (hbl _)).trans h6⟩
  clear h1 h2 h3 h4 h5 h6 HC
  go_wp2
  go_returns
  exact ⟨⟨_, rfl⟩, HP.out⟩

theorem sees_hold (w0 : World) (D H TB : Nat) (s : Stt) (who : Int) (only : Bool) (r : Req) (pd pl : Option Addr) (cd cl : Nat) (w : World) (h : Desk w D H s) (hT : w.heap[TB]? = some (.cells (turnC D who r.id only 0 (.slice none 0 0)) 101 (0, 0))) (hTD : TB ≠ D) (hTH : TB ≠ H) (hbw : Below w0.heap.size w0 w) (hr : ReqAt w0 r pd cd pl cl) (hMD : w0.heap.size ≤ D) (hMH : w0.heap.size ≤ H) (hMT : w0.heap.size ≤ TB) (hok : reqOkB r = true) (hwho : 0 ≤ who ∧ who ≤ 2) (hk : r.kind = 3) :
    Calls Tryz.prog 107 #[.pointer (some ⟨TB, 0, none⟩), reqV r pd cd pl cl] w fun e w' => (∃ v, e = .returned v) ∧ TurnOut w D H TB who r.id only (turnZ s who only r) w' := by
  refine (turn_hold D H TB s who r.id only r pd pl cd cl w h hT hTD hTH (req_adr hok) hwho (req_parts hok).1).mono ?_
  rintro e w' ⟨hv, ⟨g, c, h1, h2, h3, h4, h5⟩, h6, h7⟩
  unfold TurnOut turnZ
  rw [if_neg (by omega), if_pos hk]
  exact ⟨hv, some ⟨g, 0, none⟩, c, h1, .inr ⟨g, rfl, h5, h2⟩, h3, h4, h6, h7.mono (fun k e => by omega)⟩

set_option maxRecDepth 100000 in
set_option maxHeartbeats 1000000 in
theorem shown_hold (w0 : World) (D H TB : Nat) (s : Stt) (who : Int) (only : Bool) (r : Req) (pd pl : Option Addr) (cd cl : Nat) (w : World) (h : Desk w D H s) (hT : w.heap[TB]? = some (.cells (turnC D who r.id only 0 (.slice none 0 0)) 101 (0, 0))) (hTD : TB ≠ D) (hTH : TB ≠ H) (hbw : Below w0.heap.size w0 w) (hr : ReqAt w0 r pd cd pl cl) (hMD : w0.heap.size ≤ D) (hMH : w0.heap.size ≤ H) (hMT : w0.heap.size ≤ TB) (hok : reqOkB r = true) (hwho : 0 ≤ who ∧ who ≤ 2) (hk : r.kind = 3) :
    Calls Tryz.prog 111 #[reqV r pd cd pl cl, .iface 107 (.pointer (some ⟨TB, 0, none⟩))] w fun e w' => (∃ v, e = .returned v) ∧ TurnOut w D H TB who r.id only (turnZ s who only r) w' := by
  have hbl : ∀ o, Below w.heap.size w (w.alloc o) := fun o => (Below.refl _ w).alloc (Nat.le_refl _) o
  have hlt := heap_lt hT
  have HC := Hid.intro (fun o => sees_hold w0 D H TB s who only r pd pl cd cl (w.alloc o) (h.gr (hbl o)) ((Below.heap_alloc _ _ _ hlt).trans hT) hTD hTH (hbw.trans ((hbl o).mono hbw.size)) hr hMD hMH hMT hok hwho hk)
  clear h hT hr hbw hk hok
  generalize turnZ s who only r = z at HC ⊢
  unfold reqV at HC ⊢
  go_enter Tryz.func111, Tryz.ntmps111
  go_wp2_with fail
  refine (HC.out _).mono ?_
  rintro e w1 ⟨⟨v, rfl⟩, p, c, h1, h2, h3, h4, h5, h6⟩
  have HP : Hid (TurnOut w D H TB who r.id only z w1) := Hid.intro ⟨p, c, h1, h2.mono (hbl _).size, h3, h4, h5, (Kept.of_below (hbl _)).trans h6⟩
  clear h1 h2 h3 h4 h5 h6 HC
  go_wp2
  go_returns
  exact ⟨⟨_, rfl⟩, HP.out⟩

theorem sees_try (w0 : World) (D H TB : Nat) (s : Stt) (who : Int) (only : Bool) (r : Req) (pd pl : Option Addr) (cd cl : Nat) (w : World) (h : Desk w D H s) (hT : w.heap[TB]? = some (.cells (turnC D who r.id only 0 (.slice none 0 0)) 101 (0, 0))) (hTD : TB ≠ D) (hTH : TB ≠ H) (hbw : Below w0.heap.size w0 w) (hr : ReqAt w0 r pd cd pl cl) (hMD : w0.heap.size ≤ D) (hMH : w0.heap.size ≤ H) (hMT : w0.heap.size ≤ TB) (hok : reqOkB r = true) (hwho : 0 ≤ who ∧ who ≤ 2) (hk : r.kind = 4) :
    Calls Tryz.prog 117 #[.pointer (some ⟨TB, 0, none⟩), reqV r pd cd pl cl] w fun e w' => (∃ v, e = .returned v) ∧ TurnOut w D H TB who r.id only (turnZ s who only r) w' := by
  obtain ⟨w1, w2, _, _⟩ := reqOk_words hok (.inr hk)
  refine (turn_try w0 D H TB s who r.id only r pd pl cd cl w h hT hTD hTH hbw hr hMD hMH hMT (req_adr hok) w1 w2 hwho (req_parts hok).1).mono ?_
  rintro e w' ⟨hv, h1, h2, h3⟩
  unfold TurnOut turnZ
  rw [if_neg (by omega), if_neg (by omega)]
  cases only
  · simp only [Bool.false_eq_true, if_false] at h1 h2 ⊢
    rw [if_pos hk]
    by_cases hh : getZ s.holds (atR who r.id) = r.addr
    · rw [if_pos hh] at h1 h2 ⊢
      exact ⟨hv, none, 0, h1, .inl rfl, Nat.le_refl _, by omega, h2, h3⟩
    · rw [if_neg hh] at h1 h2 ⊢
      exact ⟨hv, none, 0, h1, .inl rfl, Nat.le_refl _, by omega, h2, h3⟩
  · simp only [if_true] at h1 h2 ⊢
    exact ⟨hv, none, 0, h1, .inl rfl, Nat.le_refl _, by omega, h2, h3⟩

set_option maxRecDepth 100000 in
set_option maxHeartbeats 1000000 in
theorem shown_try (w0 : World) (D H TB : Nat) (s : Stt) (who : Int) (only : Bool) (r : Req) (pd pl : Option Addr) (cd cl : Nat) (w : World) (h : Desk w D H s) (hT : w.heap[TB]? = some (.cells (turnC D who r.id only 0 (.slice none 0 0)) 101 (0, 0))) (hTD : TB ≠ D) (hTH : TB ≠ H) (hbw : Below w0.heap.size w0 w) (hr : ReqAt w0 r pd cd pl cl) (hMD : w0.heap.size ≤ D) (hMH : w0.heap.size ≤ H) (hMT : w0.heap.size ≤ TB) (hok : reqOkB r = true) (hwho : 0 ≤ who ∧ who ≤ 2) (hk : r.kind = 4) :
    Calls Tryz.prog 114 #[reqV r pd cd pl cl, .iface 107 (.pointer (some ⟨TB, 0, none⟩))] w fun e w' => (∃ v, e = .returned v) ∧ TurnOut w D H TB who r.id only (turnZ s who only r) w' := by
  have hbl : ∀ o, Below w.heap.size w (w.alloc o) := fun o => (Below.refl _ w).alloc (Nat.le_refl _) o
  have hlt := heap_lt hT
  have HC := Hid.intro (fun o => sees_try w0 D H TB s who only r pd pl cd cl (w.alloc o) (h.gr (hbl o)) ((Below.heap_alloc _ _ _ hlt).trans hT) hTD hTH (hbw.trans ((hbl o).mono hbw.size)) hr hMD hMH hMT hok hwho hk)
  clear h hT hr hbw hk hok
  generalize turnZ s who only r = z at HC ⊢
  unfold reqV at HC ⊢
  go_enter Tryz.func114, Tryz.ntmps114
  go_wp2_with fail
  refine (HC.out _).mono ?_
  rintro e w1 ⟨⟨v, rfl⟩, p, c, h1, h2, h3, h4, h5, h6⟩
  have HP : Hid (TurnOut w D H TB who r.id only z w1) := Hid.intro ⟨p, c, h1, h2.mono (hbl _).size, h3, h4, h5, (Kept.of_below (hbl _)).trans h6⟩
  clear h1 h2 h3 h4 h5 h6 HC
  go_wp2
  go_returns
  exact ⟨⟨_, rfl⟩, HP.out⟩

end Go.Proofs.YtpamjkkghghggaaGreat

/-
  do of the program's desk.
-/
namespace Go.Proofs.YtpamjkkghghggaaGreat
open Go.RowKit
set_option linter.unusedSimpArgs false
set_option linter.unusedVariables false

theorem set3 {w : World} {b : Nat} {o0 o1 o2 : Value} {t : TypeId} (h : w.heap[b]? = some (.cells #[o0, o1, o2] t (0, 0))) (v0 v1 v2 : Value) :
    (((w.setCell ⟨b, 0, none⟩ v0).setCell ⟨b, 1, none⟩ v1).setCell ⟨b, 2, none⟩ v2).heap[b]? = some (.cells #[v0, v1, v2] t (0, 0)) := (heap_set (heap_set (heap_set h 0 v0) 1 v1) 2 v2).trans rfl
theorem kept3 (D : Nat → Prop) (w : World) {b : Nat} (hb : D b) (v0 v1 v2 : Value) : Kept D w (((w.setCell ⟨b, 0, none⟩ v0).setCell ⟨b, 1, none⟩ v1).setCell ⟨b, 2, none⟩ v2) :=
  ((Kept.setCell (D := D) (p := ⟨b, 0, none⟩) _ hb _).trans (Kept.setCell (D := D) (p := ⟨b, 1, none⟩) _ hb _)).trans (Kept.setCell (D := D) (p := ⟨b, 2, none⟩) _ hb _)

set_option maxRecDepth 100000 in
set_option maxHeartbeats 1000000 in
theorem do_none (w0 : World) (a : Option Addr) (cap : Nat) (ms : List Rng) (D H : Nat) (s : Stt) (who : Int) (r : Req) (pd pl : Option Addr) (cd cl : Nat) (w : World) (hm : RowOf w0 a ms) (hc : ms.length ≤ cap) (hc' : cap ≤ 9223372036854775807) (h : Desk w D H s) (hbw : Below w0.heap.size w0 w) (hr : ReqAt w0 r pd cd pl cl) (hMD : w0.heap.size ≤ D) (hMH : w0.heap.size ≤ H) (hok : reqOkB r = true) (hwho : 0 ≤ who ∧ who ≤ 2) (hf : rgFirst ms (burst r.addr r.many r.wrap) = none) :
    Calls Tryz.prog 38 #[.pointer (some ⟨D, 0, none⟩), .slice a ms.length cap, .int .i64 who, reqV r pd cd pl cl] w fun e w' => e = .returned (rspV ⟨r.id, 4, []⟩ none 0) ∧ Desk w' D H s ∧ Kept (fun k => k = D ∨ k = H) w w' := by
  have hDl := h.ltD
  have hHl := h.ltH
  have hws := hbw.size
  have HG := Hid.intro (fun W h1 => reqRange_any a cap ms r pd pl cd cl W h1 hc hc' (req_adr hok))
  have HM := Hid.intro hm
  have HD := Hid.intro h
  have HBW := Hid.intro hbw
  have HRA := Hid.intro hr
  have HOK := Hid.intro hok
  have HF := Hid.intro hf
  clear hm h hbw hr hok hf
  unfold reqV at HG ⊢
  go_enter Tryz.func38, Tryz.ntmps38
  go_wp2_with fail
  obtain ⟨W0, hW0⟩ : ∃ W0, (w.alloc (.cells #[.int .i64 r.id, .int .i64 r.kind, .int .i64 r.addr, .int .i64 r.many, .bool r.wrap, .slice pd r.data.length cd, .slice pl r.lanes.length cl] 66)).alloc (.cells #[.int .i64 0, .int .i64 0, .slice none 0 0] 63) = W0 := ⟨_, rfl⟩
  have hb0 : Below w.heap.size w W0 := by rw [← hW0]; exact ((Below.refl _ w).alloc (Nat.le_refl _) _).alloc (by simp) _
  have hB0 : W0.heap[w.heap.size]? = some (.cells #[.int .i64 r.id, .int .i64 r.kind, .int .i64 r.addr, .int .i64 r.many, .bool r.wrap, .slice pd r.data.length cd, .slice pl r.lanes.length cl] 66 (0, 0)) := by rw [← hW0]; exact (Below.heap_alloc _ _ _ (by simp)).trans (nw_at _ rfl)
  have hR0 : W0.heap[w.heap.size + 1]? = some (.cells #[.int .i64 0, .int .i64 0, .slice none 0 0] 63 (0, 0)) := by rw [← hW0]; exact nw_at _ (by simp)
  have hbw0 := HBW.out.trans (hb0.mono hws)
  rw [hW0]
  clear hW0
  refine (HG.out W0 (HM.out.below hbw0)).mono ?_
  rintro e w1 ⟨rfl, hb1⟩
  have hB1 := (hb1.block _ (heap_lt hB0)).trans hB0
  have hR1 := (hb1.block _ (heap_lt hR0)).trans hR0
  have hb1' := hb0.trans (hb1.mono hb0.size)
  have hbw1 := hbw0.trans (hb1.mono hbw0.size)
  clear hb1 hb0 hB0 hR0 hbw0 HG
  unfold Rng.val
  rw [HF.out]
  simp only [Option.isSome_none]
  have q0 : w1.cell? ⟨w.heap.size, 0, none⟩ = some (.int .i64 r.id) := heap_cell hB1 0
  have q1 : w1.cell? ⟨w.heap.size, 1, none⟩ = some (.int .i64 r.kind) := heap_cell hB1 1
  have q2 : w1.cell? ⟨w.heap.size, 2, none⟩ = some (.int .i64 r.addr) := heap_cell hB1 2
  have q3 : w1.cell? ⟨w.heap.size, 3, none⟩ = some (.int .i64 r.many) := heap_cell hB1 3
  have q4 : w1.cell? ⟨w.heap.size, 4, none⟩ = some (.bool r.wrap) := heap_cell hB1 4
  have q5 : w1.cell? ⟨w.heap.size, 5, none⟩ = some (.slice pd r.data.length cd) := heap_cell hB1 5
  have q6 : w1.cell? ⟨w.heap.size, 6, none⟩ = some (.slice pl r.lanes.length cl) := heap_cell hB1 6
  have r0 : w1.cell? ⟨w.heap.size + 1, 0, none⟩ = some (.int .i64 0) := heap_cell hR1 0
  have r1 : w1.cell? ⟨w.heap.size + 1, 1, none⟩ = some (.int .i64 0) := heap_cell hR1 1
  have r2 : w1.cell? ⟨w.heap.size + 1, 2, none⟩ = some (.slice none 0 0) := heap_cell hR1 2
  have f0 := heap_free hR1 0
  have f1 := heap_free hR1 1
  have f2 := heap_free hR1 2
  have hRl := heap_lt hR1
  have hBl := heap_lt hB1
  have hRn := set3 hR1 (.int .i64 r.id) (.int .i64 4) (.slice none 0 0)
  have HS : ∀ o, Hid (((((w1.setCell ⟨w.heap.size + 1, 0, none⟩ (.int .i64 r.id)).setCell ⟨w.heap.size + 1, 1, none⟩ (.int .i64 4)).setCell ⟨w.heap.size + 1, 2, none⟩ (.slice none 0 0)).alloc o).heap[w.heap.size + 1]? = some (.cells #[.int .i64 r.id, .int .i64 4, .slice none 0 0] 63 (0, 0))) := fun o => Hid.intro ((Below.heap_alloc _ _ _ (by simpa using hRl)).trans hRn)
  have HK : ∀ o, Hid (Kept (fun k => k = w.heap.size + 1) w1 ((((w1.setCell ⟨w.heap.size + 1, 0, none⟩ (.int .i64 r.id)).setCell ⟨w.heap.size + 1, 1, none⟩ (.int .i64 4)).setCell ⟨w.heap.size + 1, 2, none⟩ (.slice none 0 0)).alloc o)) := fun o => Hid.intro ((kept3 (fun k => k = w.heap.size + 1) w1 rfl _ _ _).trans (Kept.of_below (below_nw _ _)))
  clear hRn hR1 hB1
  go_wp2
  have hS := (HS (Obj.cells #[.int .i64 (rgZ ms (burst r.addr r.many r.wrap)).fr, .int .i64 (rgZ ms (burst r.addr r.many r.wrap)).tt, .int .i64 (rgZ ms (burst r.addr r.many r.wrap)).sl, .bool (rgZ ms (burst r.addr r.many r.wrap)).only] 68)).out
  have hK := (HK (Obj.cells #[.int .i64 (rgZ ms (burst r.addr r.many r.wrap)).fr, .int .i64 (rgZ ms (burst r.addr r.many r.wrap)).tt, .int .i64 (rgZ ms (burst r.addr r.many r.wrap)).sl, .bool (rgZ ms (burst r.addr r.many r.wrap)).only] 68)).out
  generalize ((((w1.setCell ⟨w.heap.size + 1, 0, none⟩ (.int .i64 r.id)).setCell ⟨w.heap.size + 1, 1, none⟩ (.int .i64 4)).setCell ⟨w.heap.size + 1, 2, none⟩ (.slice none 0 0)).alloc (Obj.cells #[.int .i64 (rgZ ms (burst r.addr r.many r.wrap)).fr, .int .i64 (rgZ ms (burst r.addr r.many r.wrap)).tt, .int .i64 (rgZ ms (burst r.addr r.many r.wrap)).sl, .bool (rgZ ms (burst r.addr r.many r.wrap)).only] 68)) = W at hS hK ⊢
  have s0 : W.cell? ⟨w.heap.size + 1, 0, none⟩ = some (.int .i64 r.id) := heap_cell hS 0
  have s1 : W.cell? ⟨w.heap.size + 1, 1, none⟩ = some (.int .i64 4) := heap_cell hS 1
  have s2 : W.cell? ⟨w.heap.size + 1, 2, none⟩ = some (.slice none 0 0) := heap_cell hS 2
  refine bodyPost_ret (v := .agg #[.int .i64 r.id, .int .i64 4, .slice none 0 0]) (by simp [results, Tryz.results38, go_sem, s0, s1, s2]) rfl ⟨rfl, ?_, ?_⟩
  · exact (HD.out.gr hb1').of (hK.block _ (Nat.lt_of_lt_of_le hDl hb1'.size) (by omega)) (hK.block _ (Nat.lt_of_lt_of_le hHl hb1'.size) (by omega))
  · exact ⟨hK.os.trans hb1'.os, hK.tape.trans hb1'.tape, hK.output.trans hb1'.output, Nat.le_trans hb1'.size hK.size, fun k hk hne => (hK.block k (Nat.lt_of_lt_of_le hk hb1'.size) (by omega)).trans (hb1'.block k hk)⟩

set_option maxRecDepth 100000 in
set_option maxHeartbeats 1000000 in
theorem do_read (w0 : World) (a : Option Addr) (cap : Nat) (ms : List Rng) (D H : Nat) (s : Stt) (who : Int) (r : Req) (pd pl : Option Addr) (cd cl : Nat) (w : World) (hm : RowOf w0 a ms) (hc : ms.length ≤ cap) (hc' : cap ≤ 9223372036854775807) (h : Desk w D H s) (hbw : Below w0.heap.size w0 w) (hr : ReqAt w0 r pd cd pl cl) (hMD : w0.heap.size ≤ D) (hMH : w0.heap.size ≤ H) (hok : reqOkB r = true) (hwho : 0 ≤ who ∧ who ≤ 2) (g : Rng) (hf : rgFirst ms (burst r.addr r.many r.wrap) = some g) (hk : r.kind = 1) :
    Calls Tryz.prog 38 #[.pointer (some ⟨D, 0, none⟩), .slice a ms.length cap, .int .i64 who, reqV r pd cd pl cl] w fun e w' => ∃ p c, e = .returned (rspV ⟨r.id, (turnZ s who g.only r).2.1, (turnZ s who g.only r).2.2⟩ p c) ∧ OwnN w.heap.size w' p c (turnZ s who g.only r).2.2 ∧ (turnZ s who g.only r).2.2.length ≤ c ∧ c ≤ 9223372036854775807 ∧ Desk w' D H (turnZ s who g.only r).1 ∧ Kept (fun k => k = D ∨ k = H) w w' := by
  have HKD := Hid.intro (fun W => kind_read r pd pl cd cl W hk)
  have HSH := Hid.intro (fun TB W h1 h2 h3 h4 h5 h6 => shown_read w0 D H TB s who g.only r pd pl cd cl W h1 h2 h3 h4 h5 hr hMD hMH h6 hok hwho hk)
  generalize turnZ s who g.only r = z at HSH ⊢
  unfold reqV at HKD HSH
  have hDl := h.ltD
  have hHl := h.ltH
  have hws := hbw.size
  have HG := Hid.intro (fun W h1 => reqRange_any a cap ms r pd pl cd cl W h1 hc hc' (req_adr hok))
  have HM := Hid.intro hm
  have HD := Hid.intro h
  have HBW := Hid.intro hbw
  have HRA := Hid.intro hr
  have HOK := Hid.intro hok
  have HF := Hid.intro hf
  clear hm h hbw hr hok hf hk
  unfold reqV at HG ⊢
  go_enter Tryz.func38, Tryz.ntmps38
  go_wp2_with fail
  obtain ⟨W0, hW0⟩ : ∃ W0, (w.alloc (.cells #[.int .i64 r.id, .int .i64 r.kind, .int .i64 r.addr, .int .i64 r.many, .bool r.wrap, .slice pd r.data.length cd, .slice pl r.lanes.length cl] 66)).alloc (.cells #[.int .i64 0, .int .i64 0, .slice none 0 0] 63) = W0 := ⟨_, rfl⟩
  have hb0 : Below w.heap.size w W0 := by rw [← hW0]; exact ((Below.refl _ w).alloc (Nat.le_refl _) _).alloc (by simp) _
  have hB0 : W0.heap[w.heap.size]? = some (.cells #[.int .i64 r.id, .int .i64 r.kind, .int .i64 r.addr, .int .i64 r.many, .bool r.wrap, .slice pd r.data.length cd, .slice pl r.lanes.length cl] 66 (0, 0)) := by rw [← hW0]; exact (Below.heap_alloc _ _ _ (by simp)).trans (nw_at _ rfl)
  have hR0 : W0.heap[w.heap.size + 1]? = some (.cells #[.int .i64 0, .int .i64 0, .slice none 0 0] 63 (0, 0)) := by rw [← hW0]; exact nw_at _ (by simp)
  have hbw0 := HBW.out.trans (hb0.mono hws)
  rw [hW0]
  clear hW0
  refine (HG.out W0 (HM.out.below hbw0)).mono ?_
  rintro e w1 ⟨rfl, hb1⟩
  have hB1 := (hb1.block _ (heap_lt hB0)).trans hB0
  have hR1 := (hb1.block _ (heap_lt hR0)).trans hR0
  have hb1' := hb0.trans (hb1.mono hb0.size)
  have hbw1 := hbw0.trans (hb1.mono hbw0.size)
  clear hb1 hb0 hB0 hR0 hbw0 HG
  unfold Rng.val
  have HZ := Hid.intro (show rgZ ms (burst r.addr r.many r.wrap) = g by rw [rgZ, HF.out]; rfl)
  rw [HF.out, HZ.out]
  simp only [Option.isSome_some]
  have q0 : w1.cell? ⟨w.heap.size, 0, none⟩ = some (.int .i64 r.id) := heap_cell hB1 0
  have q1 : w1.cell? ⟨w.heap.size, 1, none⟩ = some (.int .i64 r.kind) := heap_cell hB1 1
  have q2 : w1.cell? ⟨w.heap.size, 2, none⟩ = some (.int .i64 r.addr) := heap_cell hB1 2
  have q3 : w1.cell? ⟨w.heap.size, 3, none⟩ = some (.int .i64 r.many) := heap_cell hB1 3
  have q4 : w1.cell? ⟨w.heap.size, 4, none⟩ = some (.bool r.wrap) := heap_cell hB1 4
  have q5 : w1.cell? ⟨w.heap.size, 5, none⟩ = some (.slice pd r.data.length cd) := heap_cell hB1 5
  have q6 : w1.cell? ⟨w.heap.size, 6, none⟩ = some (.slice pl r.lanes.length cl) := heap_cell hB1 6
  have hRl := heap_lt hR1
  have hBl := heap_lt hB1
  go_wp2_with fail
  obtain ⟨W2, hW2⟩ : ∃ W2, (w1.alloc (.cells #[.int .i64 g.fr, .int .i64 g.tt, .int .i64 g.sl, .bool g.only] 68)).alloc (.cells #[.pointer (some ⟨D, 0, none⟩), .int .i64 who, .int .i64 r.id, .bool g.only, .int .i64 0, .slice none 0 0] 101) = W2 := ⟨_, rfl⟩
  have hb2 : Below w1.heap.size w1 W2 := by rw [← hW2]; exact ((Below.refl _ w1).alloc (Nat.le_refl _) _).alloc (by simp) _
  have hT2 : W2.heap[w1.heap.size + 1]? = some (.cells (turnC D who r.id g.only 0 (.slice none 0 0)) 101 (0, 0)) := by rw [← hW2]; exact nw_at _ (by simp)
  rw [hW2]
  clear hW2
  have hB2 := (hb2.block _ hBl).trans hB1
  have hR2 := (hb2.block _ hRl).trans hR1
  have hb2' := hb1'.trans (hb2.mono hb1'.size)
  have hbw2 := hbw1.trans (hb2.mono hbw1.size)
  have hs1 := hb1'.size
  clear hb2 hb1' hbw1 hB1 hR1 q0 q1 q2 q3 q4 q5 q6
  refine (HKD.out W2).mono ?_
  rintro e w3 ⟨rfl, hb3⟩
  have hT3 := (hb3.block _ (heap_lt hT2)).trans hT2
  have hB3 := (hb3.block _ (heap_lt hB2)).trans hB2
  have hR3 := (hb3.block _ (heap_lt hR2)).trans hR2
  have hb3' := hb2'.trans (hb3.mono hb2'.size)
  have hbw3 := hbw2.trans (hb3.mono hbw2.size)
  clear hb3 hb2' hbw2 hT2 hB2 hR2 HKD
  go_wp2_with fail
  refine (HSH.out (w1.heap.size + 1) w3 (HD.out.gr hb3') hT3 (by omega) (by omega) hbw3 (by omega)).mono ?_
  rintro e w4 ⟨⟨v4, rfl⟩, p, c, hT4, hO4, hc1, hc2, hD4, hk4⟩
  have hR4 := (hk4.block _ (heap_lt hR3) (by omega)).trans hR3
  have hB4 := (hk4.block _ (heap_lt hB3) (by omega)).trans hB3
  have hs3 := hb3'.size
  have HO4 : Hid (OwnN w.heap.size w4 p c z.2.2 ∧ ∀ b, p = some ⟨b, 0, none⟩ → z.2.2 ≠ [] → w3.heap.size ≤ b) := by
    refine Hid.intro ⟨hO4.mono hs3, fun b hp hne => ?_⟩
    rcases hO4 with h | ⟨g', h1, h2, _⟩
    · exact absurd h hne
    · rw [hp] at h1; cases h1; exact h2
  have hRl4 := heap_lt hR4
  have hRl3 := heap_lt hR3
  have q0 : w4.cell? ⟨w.heap.size, 0, none⟩ = some (.int .i64 r.id) := heap_cell hB4 0
  have t4 : w4.cell? ⟨w1.heap.size + 1, 4, none⟩ = some (.int .i64 z.2.1) := heap_cell hT4 4
  have t5 : w4.cell? ⟨w1.heap.size + 1, 5, none⟩ = some (.slice p z.2.2.length c) := heap_cell hT4 5
  have r0 : w4.cell? ⟨w.heap.size + 1, 0, none⟩ = some (.int .i64 0) := heap_cell hR4 0
  have r1 : w4.cell? ⟨w.heap.size + 1, 1, none⟩ = some (.int .i64 0) := heap_cell hR4 1
  have r2 : w4.cell? ⟨w.heap.size + 1, 2, none⟩ = some (.slice none 0 0) := heap_cell hR4 2
  have f0 := heap_free hR4 0
  have f1 := heap_free hR4 1
  have f2 := heap_free hR4 2
  have HS := Hid.intro (set3 hR4 (.int .i64 r.id) (.int .i64 z.2.1) (.slice p z.2.2.length c))
  have HKK := Hid.intro (kept3 (fun k => k = w.heap.size + 1) w4 rfl (.int .i64 r.id) (.int .i64 z.2.1) (.slice p z.2.2.length c))
  have HD4 := Hid.intro hD4
  have HK4 := Hid.intro hk4
  clear hT4 hO4 hD4 hk4 hR4 hB4 hT3 hB3 hR3 HSH
  go_wp2
  have hS := HS.out
  have hK := HKK.out
  generalize (((w4.setCell ⟨w.heap.size + 1, 0, none⟩ (.int .i64 r.id)).setCell ⟨w.heap.size + 1, 1, none⟩ (.int .i64 z.2.1)).setCell ⟨w.heap.size + 1, 2, none⟩ (.slice p z.2.2.length c)) = W at hS hK ⊢
  have s0 : W.cell? ⟨w.heap.size + 1, 0, none⟩ = some (.int .i64 r.id) := heap_cell hS 0
  have s1 : W.cell? ⟨w.heap.size + 1, 1, none⟩ = some (.int .i64 z.2.1) := heap_cell hS 1
  have s2 : W.cell? ⟨w.heap.size + 1, 2, none⟩ = some (.slice p z.2.2.length c) := heap_cell hS 2
  refine bodyPost_ret (v := .agg #[.int .i64 r.id, .int .i64 z.2.1, .slice p z.2.2.length c]) (by simp [results, Tryz.results38, go_sem, s0, s1, s2]) rfl ⟨p, c, rfl, ?_, hc1, hc2, ?_, ?_⟩
  · by_cases hne : z.2.2 = []
    · exact .inl hne
    · exact HO4.out.1.of (fun b hb hlt => hK.block b hlt (by have := HO4.out.2 b hb hne; omega))
  · exact HD4.out.of (hK.block _ HD4.out.ltD (by omega)) (hK.block _ HD4.out.ltH (by omega))
  · have k4 := HK4.out
    exact ⟨hK.os.trans (k4.os.trans hb3'.os), hK.tape.trans (k4.tape.trans hb3'.tape), hK.output.trans (k4.output.trans hb3'.output), Nat.le_trans hs3 (Nat.le_trans k4.size hK.size), fun k hk hne => (hK.block k (Nat.lt_of_lt_of_le (Nat.lt_of_lt_of_le hk hs3) k4.size) (by omega)).trans ((k4.block k (Nat.lt_of_lt_of_le hk hs3) (by omega)).trans (hb3'.block k hk))⟩

set_option maxRecDepth 100000 in
set_option maxHeartbeats 1000000 in
theorem do_write (w0 : World) (a : Option Addr) (cap : Nat) (ms : List Rng) (D H : Nat) (s : Stt) (who : Int) (r : Req) (pd pl : Option Addr) (cd cl : Nat) (w : World) (hm : RowOf w0 a ms) (hc : ms.length ≤ cap) (hc' : cap ≤ 9223372036854775807) (h : Desk w D H s) (hbw : Below w0.heap.size w0 w) (hr : ReqAt w0 r pd cd pl cl) (hMD : w0.heap.size ≤ D) (hMH : w0.heap.size ≤ H) (hok : reqOkB r = true) (hwho : 0 ≤ who ∧ who ≤ 2) (g : Rng) (hf : rgFirst ms (burst r.addr r.many r.wrap) = some g) (hk : r.kind = 2) :
    Calls Tryz.prog 38 #[.pointer (some ⟨D, 0, none⟩), .slice a ms.length cap, .int .i64 who, reqV r pd cd pl cl] w fun e w' => ∃ p c, e = .returned (rspV ⟨r.id, (turnZ s who g.only r).2.1, (turnZ s who g.only r).2.2⟩ p c) ∧ OwnN w.heap.size w' p c (turnZ s who g.only r).2.2 ∧ (turnZ s who g.only r).2.2.length ≤ c ∧ c ≤ 9223372036854775807 ∧ Desk w' D H (turnZ s who g.only r).1 ∧ Kept (fun k => k = D ∨ k = H) w w' := by
  have HKD := Hid.intro (fun W => kind_write r pd pl cd cl W hk)
  have HSH := Hid.intro (fun TB W h1 h2 h3 h4 h5 h6 => shown_write w0 D H TB s who g.only r pd pl cd cl W h1 h2 h3 h4 h5 hr hMD hMH h6 hok hwho hk)
  generalize turnZ s who g.only r = z at HSH ⊢
  unfold reqV at HKD HSH
  have hDl := h.ltD
  have hHl := h.ltH
  have hws := hbw.size
  have HG := Hid.intro (fun W h1 => reqRange_any a cap ms r pd pl cd cl W h1 hc hc' (req_adr hok))
  have HM := Hid.intro hm
  have HD := Hid.intro h
  have HBW := Hid.intro hbw
  have HRA := Hid.intro hr
  have HOK := Hid.intro hok
  have HF := Hid.intro hf
  clear hm h hbw hr hok hf hk
  unfold reqV at HG ⊢
  go_enter Tryz.func38, Tryz.ntmps38
  go_wp2_with fail
  obtain ⟨W0, hW0⟩ : ∃ W0, (w.alloc (.cells #[.int .i64 r.id, .int .i64 r.kind, .int .i64 r.addr, .int .i64 r.many, .bool r.wrap, .slice pd r.data.length cd, .slice pl r.lanes.length cl] 66)).alloc (.cells #[.int .i64 0, .int .i64 0, .slice none 0 0] 63) = W0 := ⟨_, rfl⟩
  have hb0 : Below w.heap.size w W0 := by rw [← hW0]; exact ((Below.refl _ w).alloc (Nat.le_refl _) _).alloc (by simp) _
  have hB0 : W0.heap[w.heap.size]? = some (.cells #[.int .i64 r.id, .int .i64 r.kind, .int .i64 r.addr, .int .i64 r.many, .bool r.wrap, .slice pd r.data.length cd, .slice pl r.lanes.length cl] 66 (0, 0)) := by rw [← hW0]; exact (Below.heap_alloc _ _ _ (by simp)).trans (nw_at _ rfl)
  have hR0 : W0.heap[w.heap.size + 1]? = some (.cells #[.int .i64 0, .int .i64 0, .slice none 0 0] 63 (0, 0)) := by rw [← hW0]; exact nw_at _ (by simp)
  have hbw0 := HBW.out.trans (hb0.mono hws)
  rw [hW0]
  clear hW0
  refine (HG.out W0 (HM.out.below hbw0)).mono ?_
  rintro e w1 ⟨rfl, hb1⟩
  have hB1 := (hb1.block _ (heap_lt hB0)).trans hB0
  have hR1 := (hb1.block _ (heap_lt hR0)).trans hR0
  have hb1' := hb0.trans (hb1.mono hb0.size)
  have hbw1 := hbw0.trans (hb1.mono hbw0.size)
  clear hb1 hb0 hB0 hR0 hbw0 HG
  unfold Rng.val
  have HZ := Hid.intro (show rgZ ms (burst r.addr r.many r.wrap) = g by rw [rgZ, HF.out]; rfl)
  rw [HF.out, HZ.out]
  simp only [Option.isSome_some]
  have q0 : w1.cell? ⟨w.heap.size, 0, none⟩ = some (.int .i64 r.id) := heap_cell hB1 0
  have q1 : w1.cell? ⟨w.heap.size, 1, none⟩ = some (.int .i64 r.kind) := heap_cell hB1 1
  have q2 : w1.cell? ⟨w.heap.size, 2, none⟩ = some (.int .i64 r.addr) := heap_cell hB1 2
  have q3 : w1.cell? ⟨w.heap.size, 3, none⟩ = some (.int .i64 r.many) := heap_cell hB1 3
  have q4 : w1.cell? ⟨w.heap.size, 4, none⟩ = some (.bool r.wrap) := heap_cell hB1 4
  have q5 : w1.cell? ⟨w.heap.size, 5, none⟩ = some (.slice pd r.data.length cd) := heap_cell hB1 5
  have q6 : w1.cell? ⟨w.heap.size, 6, none⟩ = some (.slice pl r.lanes.length cl) := heap_cell hB1 6
  have hRl := heap_lt hR1
  have hBl := heap_lt hB1
  go_wp2_with fail
  obtain ⟨W2, hW2⟩ : ∃ W2, (w1.alloc (.cells #[.int .i64 g.fr, .int .i64 g.tt, .int .i64 g.sl, .bool g.only] 68)).alloc (.cells #[.pointer (some ⟨D, 0, none⟩), .int .i64 who, .int .i64 r.id, .bool g.only, .int .i64 0, .slice none 0 0] 101) = W2 := ⟨_, rfl⟩
  have hb2 : Below w1.heap.size w1 W2 := by rw [← hW2]; exact ((Below.refl _ w1).alloc (Nat.le_refl _) _).alloc (by simp) _
  have hT2 : W2.heap[w1.heap.size + 1]? = some (.cells (turnC D who r.id g.only 0 (.slice none 0 0)) 101 (0, 0)) := by rw [← hW2]; exact nw_at _ (by simp)
  rw [hW2]
  clear hW2
  have hB2 := (hb2.block _ hBl).trans hB1
  have hR2 := (hb2.block _ hRl).trans hR1
  have hb2' := hb1'.trans (hb2.mono hb1'.size)
  have hbw2 := hbw1.trans (hb2.mono hbw1.size)
  have hs1 := hb1'.size
  clear hb2 hb1' hbw1 hB1 hR1 q0 q1 q2 q3 q4 q5 q6
  refine (HKD.out W2).mono ?_
  rintro e w3 ⟨rfl, hb3⟩
  have hT3 := (hb3.block _ (heap_lt hT2)).trans hT2
  have hB3 := (hb3.block _ (heap_lt hB2)).trans hB2
  have hR3 := (hb3.block _ (heap_lt hR2)).trans hR2
  have hb3' := hb2'.trans (hb3.mono hb2'.size)
  have hbw3 := hbw2.trans (hb3.mono hbw2.size)
  clear hb3 hb2' hbw2 hT2 hB2 hR2 HKD
  go_wp2_with fail
  refine (HSH.out (w1.heap.size + 1) w3 (HD.out.gr hb3') hT3 (by omega) (by omega) hbw3 (by omega)).mono ?_
  rintro e w4 ⟨⟨v4, rfl⟩, p, c, hT4, hO4, hc1, hc2, hD4, hk4⟩
  have hR4 := (hk4.block _ (heap_lt hR3) (by omega)).trans hR3
  have hB4 := (hk4.block _ (heap_lt hB3) (by omega)).trans hB3
  have hs3 := hb3'.size
  have HO4 : Hid (OwnN w.heap.size w4 p c z.2.2 ∧ ∀ b, p = some ⟨b, 0, none⟩ → z.2.2 ≠ [] → w3.heap.size ≤ b) := by
    refine Hid.intro ⟨hO4.mono hs3, fun b hp hne => ?_⟩
    rcases hO4 with h | ⟨g', h1, h2, _⟩
    · exact absurd h hne
    · rw [hp] at h1; cases h1; exact h2
  have hRl4 := heap_lt hR4
  have hRl3 := heap_lt hR3
  have q0 : w4.cell? ⟨w.heap.size, 0, none⟩ = some (.int .i64 r.id) := heap_cell hB4 0
  have t4 : w4.cell? ⟨w1.heap.size + 1, 4, none⟩ = some (.int .i64 z.2.1) := heap_cell hT4 4
  have t5 : w4.cell? ⟨w1.heap.size + 1, 5, none⟩ = some (.slice p z.2.2.length c) := heap_cell hT4 5
  have r0 : w4.cell? ⟨w.heap.size + 1, 0, none⟩ = some (.int .i64 0) := heap_cell hR4 0
  have r1 : w4.cell? ⟨w.heap.size + 1, 1, none⟩ = some (.int .i64 0) := heap_cell hR4 1
  have r2 : w4.cell? ⟨w.heap.size + 1, 2, none⟩ = some (.slice none 0 0) := heap_cell hR4 2
  have f0 := heap_free hR4 0
  have f1 := heap_free hR4 1
  have f2 := heap_free hR4 2
  have HS := Hid.intro (set3 hR4 (.int .i64 r.id) (.int .i64 z.2.1) (.slice p z.2.2.length c))
  have HKK := Hid.intro (kept3 (fun k => k = w.heap.size + 1) w4 rfl (.int .i64 r.id) (.int .i64 z.2.1) (.slice p z.2.2.length c))
  have HD4 := Hid.intro hD4
  have HK4 := Hid.intro hk4
  clear hT4 hO4 hD4 hk4 hR4 hB4 hT3 hB3 hR3 HSH
  go_wp2
  have hS := HS.out
  have hK := HKK.out
  generalize (((w4.setCell ⟨w.heap.size + 1, 0, none⟩ (.int .i64 r.id)).setCell ⟨w.heap.size + 1, 1, none⟩ (.int .i64 z.2.1)).setCell ⟨w.heap.size + 1, 2, none⟩ (.slice p z.2.2.length c)) = W at hS hK ⊢
  have s0 : W.cell? ⟨w.heap.size + 1, 0, none⟩ = some (.int .i64 r.id) := heap_cell hS 0
  have s1 : W.cell? ⟨w.heap.size + 1, 1, none⟩ = some (.int .i64 z.2.1) := heap_cell hS 1
  have s2 : W.cell? ⟨w.heap.size + 1, 2, none⟩ = some (.slice p z.2.2.length c) := heap_cell hS 2
  refine bodyPost_ret (v := .agg #[.int .i64 r.id, .int .i64 z.2.1, .slice p z.2.2.length c]) (by simp [results, Tryz.results38, go_sem, s0, s1, s2]) rfl ⟨p, c, rfl, ?_, hc1, hc2, ?_, ?_⟩
  · by_cases hne : z.2.2 = []
    · exact .inl hne
    · exact HO4.out.1.of (fun b hb hlt => hK.block b hlt (by have := HO4.out.2 b hb hne; omega))
  · exact HD4.out.of (hK.block _ HD4.out.ltD (by omega)) (hK.block _ HD4.out.ltH (by omega))
  · have k4 := HK4.out
    exact ⟨hK.os.trans (k4.os.trans hb3'.os), hK.tape.trans (k4.tape.trans hb3'.tape), hK.output.trans (k4.output.trans hb3'.output), Nat.le_trans hs3 (Nat.le_trans k4.size hK.size), fun k hk hne => (hK.block k (Nat.lt_of_lt_of_le (Nat.lt_of_lt_of_le hk hs3) k4.size) (by omega)).trans ((k4.block k (Nat.lt_of_lt_of_le hk hs3) (by omega)).trans (hb3'.block k hk))⟩

set_option maxRecDepth 100000 in
set_option maxHeartbeats 1000000 in
theorem do_hold (w0 : World) (a : Option Addr) (cap : Nat) (ms : List Rng) (D H : Nat) (s : Stt) (who : Int) (r : Req) (pd pl : Option Addr) (cd cl : Nat) (w : World) (hm : RowOf w0 a ms) (hc : ms.length ≤ cap) (hc' : cap ≤ 9223372036854775807) (h : Desk w D H s) (hbw : Below w0.heap.size w0 w) (hr : ReqAt w0 r pd cd pl cl) (hMD : w0.heap.size ≤ D) (hMH : w0.heap.size ≤ H) (hok : reqOkB r = true) (hwho : 0 ≤ who ∧ who ≤ 2) (g : Rng) (hf : rgFirst ms (burst r.addr r.many r.wrap) = some g) (hk : r.kind = 3) :
    Calls Tryz.prog 38 #[.pointer (some ⟨D, 0, none⟩), .slice a ms.length cap, .int .i64 who, reqV r pd cd pl cl] w fun e w' => ∃ p c, e = .returned (rspV ⟨r.id, (turnZ s who g.only r).2.1, (turnZ s who g.only r).2.2⟩ p c) ∧ OwnN w.heap.size w' p c (turnZ s who g.only r).2.2 ∧ (turnZ s who g.only r).2.2.length ≤ c ∧ c ≤ 9223372036854775807 ∧ Desk w' D H (turnZ s who g.only r).1 ∧ Kept (fun k => k = D ∨ k = H) w w' := by
  have HKD := Hid.intro (fun W => kind_hold r pd pl cd cl W hk)
  have HSH := Hid.intro (fun TB W h1 h2 h3 h4 h5 h6 => shown_hold w0 D H TB s who g.only r pd pl cd cl W h1 h2 h3 h4 h5 hr hMD hMH h6 hok hwho hk)
  generalize turnZ s who g.only r = z at HSH ⊢
  unfold reqV at HKD HSH
  have hDl := h.ltD
  have hHl := h.ltH
  have hws := hbw.size
  have HG := Hid.intro (fun W h1 => reqRange_any a cap ms r pd pl cd cl W h1 hc hc' (req_adr hok))
  have HM := Hid.intro hm
  have HD := Hid.intro h
  have HBW := Hid.intro hbw
  have HRA := Hid.intro hr
  have HOK := Hid.intro hok
  have HF := Hid.intro hf
  clear hm h hbw hr hok hf hk
  unfold reqV at HG ⊢
  go_enter Tryz.func38, Tryz.ntmps38
  go_wp2_with fail
  obtain ⟨W0, hW0⟩ : ∃ W0, (w.alloc (.cells #[.int .i64 r.id, .int .i64 r.kind, .int .i64 r.addr, .int .i64 r.many, .bool r.wrap, .slice pd r.data.length cd, .slice pl r.lanes.length cl] 66)).alloc (.cells #[.int .i64 0, .int .i64 0, .slice none 0 0] 63) = W0 := ⟨_, rfl⟩
  have hb0 : Below w.heap.size w W0 := by rw [← hW0]; exact ((Below.refl _ w).alloc (Nat.le_refl _) _).alloc (by simp) _
  have hB0 : W0.heap[w.heap.size]? = some (.cells #[.int .i64 r.id, .int .i64 r.kind, .int .i64 r.addr, .int .i64 r.many, .bool r.wrap, .slice pd r.data.length cd, .slice pl r.lanes.length cl] 66 (0, 0)) := by rw [← hW0]; exact (Below.heap_alloc _ _ _ (by simp)).trans (nw_at _ rfl)
  have hR0 : W0.heap[w.heap.size + 1]? = some (.cells #[.int .i64 0, .int .i64 0, .slice none 0 0] 63 (0, 0)) := by rw [← hW0]; exact nw_at _ (by simp)
  have hbw0 := HBW.out.trans (hb0.mono hws)
  rw [hW0]
  clear hW0
  refine (HG.out W0 (HM.out.below hbw0)).mono ?_
  rintro e w1 ⟨rfl, hb1⟩
  have hB1 := (hb1.block _ (heap_lt hB0)).trans hB0
  have hR1 := (hb1.block _ (heap_lt hR0)).trans hR0
  have hb1' := hb0.trans (hb1.mono hb0.size)
  have hbw1 := hbw0.trans (hb1.mono hbw0.size)
  clear hb1 hb0 hB0 hR0 hbw0 HG
  unfold Rng.val
  have HZ := Hid.intro (show rgZ ms (burst r.addr r.many r.wrap) = g by rw [rgZ, HF.out]; rfl)
  rw [HF.out, HZ.out]
  simp only [Option.isSome_some]
  have q0 : w1.cell? ⟨w.heap.size, 0, none⟩ = some (.int .i64 r.id) := heap_cell hB1 0
  have q1 : w1.cell? ⟨w.heap.size, 1, none⟩ = some (.int .i64 r.kind) := heap_cell hB1 1
  have q2 : w1.cell? ⟨w.heap.size, 2, none⟩ = some (.int .i64 r.addr) := heap_cell hB1 2
  have q3 : w1.cell? ⟨w.heap.size, 3, none⟩ = some (.int .i64 r.many) := heap_cell hB1 3
  have q4 : w1.cell? ⟨w.heap.size, 4, none⟩ = some (.bool r.wrap) := heap_cell hB1 4
  have q5 : w1.cell? ⟨w.heap.size, 5, none⟩ = some (.slice pd r.data.length cd) := heap_cell hB1 5
  have q6 : w1.cell? ⟨w.heap.size, 6, none⟩ = some (.slice pl r.lanes.length cl) := heap_cell hB1 6
  have hRl := heap_lt hR1
  have hBl := heap_lt hB1
  go_wp2_with fail
  obtain ⟨W2, hW2⟩ : ∃ W2, (w1.alloc (.cells #[.int .i64 g.fr, .int .i64 g.tt, .int .i64 g.sl, .bool g.only] 68)).alloc (.cells #[.pointer (some ⟨D, 0, none⟩), .int .i64 who, .int .i64 r.id, .bool g.only, .int .i64 0, .slice none 0 0] 101) = W2 := ⟨_, rfl⟩
  have hb2 : Below w1.heap.size w1 W2 := by rw [← hW2]; exact ((Below.refl _ w1).alloc (Nat.le_refl _) _).alloc (by simp) _
  have hT2 : W2.heap[w1.heap.size + 1]? = some (.cells (turnC D who r.id g.only 0 (.slice none 0 0)) 101 (0, 0)) := by rw [← hW2]; exact nw_at _ (by simp)
  rw [hW2]
  clear hW2
  have hB2 := (hb2.block _ hBl).trans hB1
  have hR2 := (hb2.block _ hRl).trans hR1
  have hb2' := hb1'.trans (hb2.mono hb1'.size)
  have hbw2 := hbw1.trans (hb2.mono hbw1.size)
  have hs1 := hb1'.size
  clear hb2 hb1' hbw1 hB1 hR1 q0 q1 q2 q3 q4 q5 q6
  refine (HKD.out W2).mono ?_
  rintro e w3 ⟨rfl, hb3⟩
  have hT3 := (hb3.block _ (heap_lt hT2)).trans hT2
  have hB3 := (hb3.block _ (heap_lt hB2)).trans hB2
  have hR3 := (hb3.block _ (heap_lt hR2)).trans hR2
  have hb3' := hb2'.trans (hb3.mono hb2'.size)
  have hbw3 := hbw2.trans (hb3.mono hbw2.size)
  clear hb3 hb2' hbw2 hT2 hB2 hR2 HKD
  go_wp2_with fail
  refine (HSH.out (w1.heap.size + 1) w3 (HD.out.gr hb3') hT3 (by omega) (by omega) hbw3 (by omega)).mono ?_
  rintro e w4 ⟨⟨v4, rfl⟩, p, c, hT4, hO4, hc1, hc2, hD4, hk4⟩
  have hR4 := (hk4.block _ (heap_lt hR3) (by omega)).trans hR3
  have hB4 := (hk4.block _ (heap_lt hB3) (by omega)).trans hB3
  have hs3 := hb3'.size
  have HO4 : Hid (OwnN w.heap.size w4 p c z.2.2 ∧ ∀ b, p = some ⟨b, 0, none⟩ → z.2.2 ≠ [] → w3.heap.size ≤ b) := by
    refine Hid.intro ⟨hO4.mono hs3, fun b hp hne => ?_⟩
    rcases hO4 with h | ⟨g', h1, h2, _⟩
    · exact absurd h hne
    · rw [hp] at h1; cases h1; exact h2
  have hRl4 := heap_lt hR4
  have hRl3 := heap_lt hR3
  have q0 : w4.cell? ⟨w.heap.size, 0, none⟩ = some (.int .i64 r.id) := heap_cell hB4 0
  have t4 : w4.cell? ⟨w1.heap.size + 1, 4, none⟩ = some (.int .i64 z.2.1) := heap_cell hT4 4
  have t5 : w4.cell? ⟨w1.heap.size + 1, 5, none⟩ = some (.slice p z.2.2.length c) := heap_cell hT4 5
  have r0 : w4.cell? ⟨w.heap.size + 1, 0, none⟩ = some (.int .i64 0) := heap_cell hR4 0
  have r1 : w4.cell? ⟨w.heap.size + 1, 1, none⟩ = some (.int .i64 0) := heap_cell hR4 1
  have r2 : w4.cell? ⟨w.heap.size + 1, 2, none⟩ = some (.slice none 0 0) := heap_cell hR4 2
  have f0 := heap_free hR4 0
  have f1 := heap_free hR4 1
  have f2 := heap_free hR4 2
  have HS := Hid.intro (set3 hR4 (.int .i64 r.id) (.int .i64 z.2.1) (.slice p z.2.2.length c))
  have HKK := Hid.intro (kept3 (fun k => k = w.heap.size + 1) w4 rfl (.int .i64 r.id) (.int .i64 z.2.1) (.slice p z.2.2.length c))
  have HD4 := Hid.intro hD4
  have HK4 := Hid.intro hk4
  clear hT4 hO4 hD4 hk4 hR4 hB4 hT3 hB3 hR3 HSH
  go_wp2
  have hS := HS.out
  have hK := HKK.out
  generalize (((w4.setCell ⟨w.heap.size + 1, 0, none⟩ (.int .i64 r.id)).setCell ⟨w.heap.size + 1, 1, none⟩ (.int .i64 z.2.1)).setCell ⟨w.heap.size + 1, 2, none⟩ (.slice p z.2.2.length c)) = W at hS hK ⊢
  have s0 : W.cell? ⟨w.heap.size + 1, 0, none⟩ = some (.int .i64 r.id) := heap_cell hS 0
  have s1 : W.cell? ⟨w.heap.size + 1, 1, none⟩ = some (.int .i64 z.2.1) := heap_cell hS 1
  have s2 : W.cell? ⟨w.heap.size + 1, 2, none⟩ = some (.slice p z.2.2.length c) := heap_cell hS 2
  refine bodyPost_ret (v := .agg #[.int .i64 r.id, .int .i64 z.2.1, .slice p z.2.2.length c]) (by simp [results, Tryz.results38, go_sem, s0, s1, s2]) rfl ⟨p, c, rfl, ?_, hc1, hc2, ?_, ?_⟩
  · by_cases hne : z.2.2 = []
    · exact .inl hne
    · exact HO4.out.1.of (fun b hb hlt => hK.block b hlt (by have := HO4.out.2 b hb hne; omega))
  · exact HD4.out.of (hK.block _ HD4.out.ltD (by omega)) (hK.block _ HD4.out.ltH (by omega))
  · have k4 := HK4.out
    exact ⟨hK.os.trans (k4.os.trans hb3'.os), hK.tape.trans (k4.tape.trans hb3'.tape), hK.output.trans (k4.output.trans hb3'.output), Nat.le_trans hs3 (Nat.le_trans k4.size hK.size), fun k hk hne => (hK.block k (Nat.lt_of_lt_of_le (Nat.lt_of_lt_of_le hk hs3) k4.size) (by omega)).trans ((k4.block k (Nat.lt_of_lt_of_le hk hs3) (by omega)).trans (hb3'.block k hk))⟩

set_option maxRecDepth 100000 in
set_option maxHeartbeats 1000000 in
theorem do_try (w0 : World) (a : Option Addr) (cap : Nat) (ms : List Rng) (D H : Nat) (s : Stt) (who : Int) (r : Req) (pd pl : Option Addr) (cd cl : Nat) (w : World) (hm : RowOf w0 a ms) (hc : ms.length ≤ cap) (hc' : cap ≤ 9223372036854775807) (h : Desk w D H s) (hbw : Below w0.heap.size w0 w) (hr : ReqAt w0 r pd cd pl cl) (hMD : w0.heap.size ≤ D) (hMH : w0.heap.size ≤ H) (hok : reqOkB r = true) (hwho : 0 ≤ who ∧ who ≤ 2) (g : Rng) (hf : rgFirst ms (burst r.addr r.many r.wrap) = some g) (hk : r.kind = 4) :
    Calls Tryz.prog 38 #[.pointer (some ⟨D, 0, none⟩), .slice a ms.length cap, .int .i64 who, reqV r pd cd pl cl] w fun e w' => ∃ p c, e = .returned (rspV ⟨r.id, (turnZ s who g.only r).2.1, (turnZ s who g.only r).2.2⟩ p c) ∧ OwnN w.heap.size w' p c (turnZ s who g.only r).2.2 ∧ (turnZ s who g.only r).2.2.length ≤ c ∧ c ≤ 9223372036854775807 ∧ Desk w' D H (turnZ s who g.only r).1 ∧ Kept (fun k => k = D ∨ k = H) w w' := by
  have HKD := Hid.intro (fun W => kind_try r pd pl cd cl W hk)
  have HSH := Hid.intro (fun TB W h1 h2 h3 h4 h5 h6 => shown_try w0 D H TB s who g.only r pd pl cd cl W h1 h2 h3 h4 h5 hr hMD hMH h6 hok hwho hk)
  generalize turnZ s who g.only r = z at HSH ⊢
  unfold reqV at HKD HSH
  have hDl := h.ltD
  have hHl := h.ltH
  have hws := hbw.size
  have HG := Hid.intro (fun W h1 => reqRange_any a cap ms r pd pl cd cl W h1 hc hc' (req_adr hok))
  have HM := Hid.intro hm
  have HD := Hid.intro h
  have HBW := Hid.intro hbw
  have HRA := Hid.intro hr
  have HOK := Hid.intro hok
  have HF := Hid.intro hf
  clear hm h hbw hr hok hf hk
  unfold reqV at HG ⊢
  go_enter Tryz.func38, Tryz.ntmps38
  go_wp2_with fail
  obtain ⟨W0, hW0⟩ : ∃ W0, (w.alloc (.cells #[.int .i64 r.id, .int .i64 r.kind, .int .i64 r.addr, .int .i64 r.many, .bool r.wrap, .slice pd r.data.length cd, .slice pl r.lanes.length cl] 66)).alloc (.cells #[.int .i64 0, .int .i64 0, .slice none 0 0] 63) = W0 := ⟨_, rfl⟩
  have hb0 : Below w.heap.size w W0 := by rw [← hW0]; exact ((Below.refl _ w).alloc (Nat.le_refl _) _).alloc (by simp) _
  have hB0 : W0.heap[w.heap.size]? = some (.cells #[.int .i64 r.id, .int .i64 r.kind, .int .i64 r.addr, .int .i64 r.many, .bool r.wrap, .slice pd r.data.length cd, .slice pl r.lanes.length cl] 66 (0, 0)) := by rw [← hW0]; exact (Below.heap_alloc _ _ _ (by simp)).trans (nw_at _ rfl)
  have hR0 : W0.heap[w.heap.size + 1]? = some (.cells #[.int .i64 0, .int .i64 0, .slice none 0 0] 63 (0, 0)) := by rw [← hW0]; exact nw_at _ (by simp)
  have hbw0 := HBW.out.trans (hb0.mono hws)
  rw [hW0]
  clear hW0
  refine (HG.out W0 (HM.out.below hbw0)).mono ?_
  rintro e w1 ⟨rfl, hb1⟩
  have hB1 := (hb1.block _ (heap_lt hB0)).trans hB0
  have hR1 := (hb1.block _ (heap_lt hR0)).trans hR0
  have hb1' := hb0.trans (hb1.mono hb0.size)
  have hbw1 := hbw0.trans (hb1.mono hbw0.size)
  clear hb1 hb0 hB0 hR0 hbw0 HG
  unfold Rng.val
  have HZ := Hid.intro (show rgZ ms (burst r.addr r.many r.wrap) = g by rw [rgZ, HF.out]; rfl)
  rw [HF.out, HZ.out]
  simp only [Option.isSome_some]
  have q0 : w1.cell? ⟨w.heap.size, 0, none⟩ = some (.int .i64 r.id) := heap_cell hB1 0
  have q1 : w1.cell? ⟨w.heap.size, 1, none⟩ = some (.int .i64 r.kind) := heap_cell hB1 1
  have q2 : w1.cell? ⟨w.heap.size, 2, none⟩ = some (.int .i64 r.addr) := heap_cell hB1 2
  have q3 : w1.cell? ⟨w.heap.size, 3, none⟩ = some (.int .i64 r.many) := heap_cell hB1 3
  have q4 : w1.cell? ⟨w.heap.size, 4, none⟩ = some (.bool r.wrap) := heap_cell hB1 4
  have q5 : w1.cell? ⟨w.heap.size, 5, none⟩ = some (.slice pd r.data.length cd) := heap_cell hB1 5
  have q6 : w1.cell? ⟨w.heap.size, 6, none⟩ = some (.slice pl r.lanes.length cl) := heap_cell hB1 6
  have hRl := heap_lt hR1
  have hBl := heap_lt hB1
  go_wp2_with fail
  obtain ⟨W2, hW2⟩ : ∃ W2, (w1.alloc (.cells #[.int .i64 g.fr, .int .i64 g.tt, .int .i64 g.sl, .bool g.only] 68)).alloc (.cells #[.pointer (some ⟨D, 0, none⟩), .int .i64 who, .int .i64 r.id, .bool g.only, .int .i64 0, .slice none 0 0] 101) = W2 := ⟨_, rfl⟩
  have hb2 : Below w1.heap.size w1 W2 := by rw [← hW2]; exact ((Below.refl _ w1).alloc (Nat.le_refl _) _).alloc (by simp) _
  have hT2 : W2.heap[w1.heap.size + 1]? = some (.cells (turnC D who r.id g.only 0 (.slice none 0 0)) 101 (0, 0)) := by rw [← hW2]; exact nw_at _ (by simp)
  rw [hW2]
  clear hW2
  have hB2 := (hb2.block _ hBl).trans hB1
  have hR2 := (hb2.block _ hRl).trans hR1
  have hb2' := hb1'.trans (hb2.mono hb1'.size)
  have hbw2 := hbw1.trans (hb2.mono hbw1.size)
  have hs1 := hb1'.size
  clear hb2 hb1' hbw1 hB1 hR1 q0 q1 q2 q3 q4 q5 q6
  refine (HKD.out W2).mono ?_
  rintro e w3 ⟨rfl, hb3⟩
  have hT3 := (hb3.block _ (heap_lt hT2)).trans hT2
  have hB3 := (hb3.block _ (heap_lt hB2)).trans hB2
  have hR3 := (hb3.block _ (heap_lt hR2)).trans hR2
  have hb3' := hb2'.trans (hb3.mono hb2'.size)
  have hbw3 := hbw2.trans (hb3.mono hbw2.size)
  clear hb3 hb2' hbw2 hT2 hB2 hR2 HKD
  go_wp2_with fail
  refine (HSH.out (w1.heap.size + 1) w3 (HD.out.gr hb3') hT3 (by omega) (by omega) hbw3 (by omega)).mono ?_
  rintro e w4 ⟨⟨v4, rfl⟩, p, c, hT4, hO4, hc1, hc2, hD4, hk4⟩
  have hR4 := (hk4.block _ (heap_lt hR3) (by omega)).trans hR3
  have hB4 := (hk4.block _ (heap_lt hB3) (by omega)).trans hB3
  have hs3 := hb3'.size
  have HO4 : Hid (OwnN w.heap.size w4 p c z.2.2 ∧ ∀ b, p = some ⟨b, 0, none⟩ → z.2.2 ≠ [] → w3.heap.size ≤ b) := by
    refine Hid.intro ⟨hO4.mono hs3, fun b hp hne => ?_⟩
    rcases hO4 with h | ⟨g', h1, h2, _⟩
    · exact absurd h hne
    · rw [hp] at h1; cases h1; exact h2
  have hRl4 := heap_lt hR4
  have hRl3 := heap_lt hR3
  have q0 : w4.cell? ⟨w.heap.size, 0, none⟩ = some (.int .i64 r.id) := heap_cell hB4 0
  have t4 : w4.cell? ⟨w1.heap.size + 1, 4, none⟩ = some (.int .i64 z.2.1) := heap_cell hT4 4
  have t5 : w4.cell? ⟨w1.heap.size + 1, 5, none⟩ = some (.slice p z.2.2.length c) := heap_cell hT4 5
  have r0 : w4.cell? ⟨w.heap.size + 1, 0, none⟩ = some (.int .i64 0) := heap_cell hR4 0
  have r1 : w4.cell? ⟨w.heap.size + 1, 1, none⟩ = some (.int .i64 0) := heap_cell hR4 1
  have r2 : w4.cell? ⟨w.heap.size + 1, 2, none⟩ = some (.slice none 0 0) := heap_cell hR4 2
  have f0 := heap_free hR4 0
  have f1 := heap_free hR4 1
  have f2 := heap_free hR4 2
  have HS := Hid.intro (set3 hR4 (.int .i64 r.id) (.int .i64 z.2.1) (.slice p z.2.2.length c))
  have HKK := Hid.intro (kept3 (fun k => k = w.heap.size + 1) w4 rfl (.int .i64 r.id) (.int .i64 z.2.1) (.slice p z.2.2.length c))
  have HD4 := Hid.intro hD4
  have HK4 := Hid.intro hk4
  clear hT4 hO4 hD4 hk4 hR4 hB4 hT3 hB3 hR3 HSH
  go_wp2
  have hS := HS.out
  have hK := HKK.out
  generalize (((w4.setCell ⟨w.heap.size + 1, 0, none⟩ (.int .i64 r.id)).setCell ⟨w.heap.size + 1, 1, none⟩ (.int .i64 z.2.1)).setCell ⟨w.heap.size + 1, 2, none⟩ (.slice p z.2.2.length c)) = W at hS hK ⊢
  have s0 : W.cell? ⟨w.heap.size + 1, 0, none⟩ = some (.int .i64 r.id) := heap_cell hS 0
  have s1 : W.cell? ⟨w.heap.size + 1, 1, none⟩ = some (.int .i64 z.2.1) := heap_cell hS 1
  have s2 : W.cell? ⟨w.heap.size + 1, 2, none⟩ = some (.slice p z.2.2.length c) := heap_cell hS 2
  refine bodyPost_ret (v := .agg #[.int .i64 r.id, .int .i64 z.2.1, .slice p z.2.2.length c]) (by simp [results, Tryz.results38, go_sem, s0, s1, s2]) rfl ⟨p, c, rfl, ?_, hc1, hc2, ?_, ?_⟩
  · by_cases hne : z.2.2 = []
    · exact .inl hne
    · exact HO4.out.1.of (fun b hb hlt => hK.block b hlt (by have := HO4.out.2 b hb hne; omega))
  · exact HD4.out.of (hK.block _ HD4.out.ltD (by omega)) (hK.block _ HD4.out.ltH (by omega))
  · have k4 := HK4.out
    exact ⟨hK.os.trans (k4.os.trans hb3'.os), hK.tape.trans (k4.tape.trans hb3'.tape), hK.output.trans (k4.output.trans hb3'.output), Nat.le_trans hs3 (Nat.le_trans k4.size hK.size), fun k hk hne => (hK.block k (Nat.lt_of_lt_of_le (Nat.lt_of_lt_of_le hk hs3) k4.size) (by omega)).trans ((k4.block k (Nat.lt_of_lt_of_le hk hs3) (by omega)).trans (hb3'.block k hk))⟩

end Go.Proofs.YtpamjkkghghggaaGreat

namespace Go.Proofs.YtpamjkkghghggaaGreat
open Go.RowKit
set_option linter.unusedSimpArgs false
set_option linter.unusedVariables false

theorem rg_only {ms : List Rng} (hok : mapOkB ms = true) {l : List Int} (hl : l ≠ []) : (rgFirst ms l = none ∧ wholeZ ms l < 0) ∨ ∃ g, rgFirst ms l = some g ∧ ¬ wholeZ ms l < 0 ∧ onlyAt ms (wholeZ ms l) = g.only := by
  have hs := rg_slave hok hl
  have hm := (mapOk_iff ms).1 hok
  rcases whole_range ms l with hk | ⟨k, hk, hke⟩
  · cases hf : rgFirst ms l with
    | none => exact .inl ⟨rfl, by omega⟩
    | some g =>
      exfalso
      rw [hf, hk] at hs
      simp only [slaveAt] at hs
      unfold rgFirst at hf
      have hg := hm.2.1 g (List.mem_of_find?_eq_some hf)
      simp [rngOkB] at hg
      simp at hs
      omega
  · cases hf : rgFirst ms l with
    | none =>
      exfalso
      rw [hf, hke] at hs
      have hg := hm.2.1 ms[k] (List.getElem_mem hk)
      simp [rngOkB] at hg
      have h0 : ¬ ((k : Int) < 0) := by omega
      simp [slaveAt, h0, hk] at hs
      omega
    | some g =>
      refine .inr ⟨g, rfl, by omega, ?_⟩
      unfold rgFirst at hf
      have hp := List.find?_some hf
      obtain ⟨j, hj, rfl⟩ := List.mem_iff_getElem.1 (List.mem_of_find?_eq_some hf)
      cases l with
      | nil => exact absurd rfl hl
      | cons a l =>
        simp only [allInR, List.all_cons, Bool.and_eq_true] at hp
        have hw := hke
        simp only [wholeZ] at hw
        by_cases hall : (l.all fun x => findAt ms x 0 == findAt ms a 0) = true
        · rw [if_pos hall, findAt_only hm.2.2 hj hp.1] at hw
          have : j = k := by omega
          subst this
          rw [hke]
          simp [onlyAt, hj]
        · rw [if_neg hall] at hw; omega

theorem turn_do {ms : List Rng} {s : Stt} {who : Int} {r : Req} {g : Rng} (h : reqOkB r = true) (hz : ¬ wholeZ ms (burst r.addr r.many r.wrap) < 0) (ho : onlyAt ms (wholeZ ms (burst r.addr r.many r.wrap)) = g.only) :
    atmDo ms s who r = ((turnZ s who g.only r).1, ⟨r.id, (turnZ s who g.only r).2.1, (turnZ s who g.only r).2.2⟩) := by
  obtain ⟨h7, h8, h9⟩ := req_parts h
  unfold turnZ
  by_cases k1 : r.kind = 1
  · rw [if_pos k1, atmDo_read hz k1]
  rw [if_neg k1]
  by_cases k3 : r.kind = 3
  · rw [if_pos k3, atmDo_hold hz k3]
  rw [if_neg k3]
  have hw : writesB r = true := by simp [writesB]; omega
  by_cases hon : g.only = true
  · rw [if_pos hon, atmDo_deny hz (by rw [hw, ho, hon]; rfl)]
  rw [if_neg hon]
  have hn : ¬ (writesB r && onlyAt ms (wholeZ ms (burst r.addr r.many r.wrap))) = true := by rw [ho]; simp [hon]
  by_cases k4 : r.kind = 4
  · rw [if_pos k4]
    by_cases hh : getZ s.holds (atR who r.id) = r.addr
    · rw [if_pos hh, atmDo_swap hz hn k4 hh]
    · rw [if_neg hh, atmDo_miss hz hn k4 hh]
  · rw [if_neg k4, atmDo_write hz hn (by omega)]

theorem do_any (w0 : World) (a : Option Addr) (cap : Nat) (ms : List Rng) (D H : Nat) (s : Stt) (who : Int) (r : Req) (pd pl : Option Addr) (cd cl : Nat) (w : World) (hm : RowOf w0 a ms) (hc : ms.length ≤ cap) (hc' : cap ≤ 9223372036854775807) (h : Desk w D H s) (hbw : Below w0.heap.size w0 w) (hr : ReqAt w0 r pd cd pl cl) (hMD : w0.heap.size ≤ D) (hMH : w0.heap.size ≤ H) (hmo : mapOkB ms = true) (hok : reqOkB r = true) (hwho : 0 ≤ who ∧ who ≤ 2) :
    Calls Tryz.prog 38 #[.pointer (some ⟨D, 0, none⟩), .slice a ms.length cap, .int .i64 who, reqV r pd cd pl cl] w fun e w' => ∃ p c, e = .returned (rspV (atmDo ms s who r).2 p c) ∧ OwnN w.heap.size w' p c (atmDo ms s who r).2.data ∧ (atmDo ms s who r).2.data.length ≤ c ∧ c ≤ 9223372036854775807 ∧ Desk w' D H (atmDo ms s who r).1 ∧ Kept (fun k => k = D ∨ k = H) w w' := by
  rcases rg_only hmo (burst_ne (req_adr hok)) with ⟨hf, hz⟩ | ⟨g, hf, hz, ho⟩
  · rw [atmDo_none hz]
    refine (do_none w0 a cap ms D H s who r pd pl cd cl w hm hc hc' h hbw hr hMD hMH hok hwho hf).mono ?_
    rintro e w' ⟨rfl, h1, h2⟩
    exact ⟨none, 0, rfl, .inl rfl, Nat.le_refl _, by omega, h1, h2⟩
  · rw [turn_do hok hz ho]
    obtain ⟨_, _, h9⟩ := req_parts hok
    have hk : r.kind = 1 ∨ r.kind = 2 ∨ r.kind = 3 ∨ r.kind = 4 := by omega
    rcases hk with hk | hk | hk | hk
    · exact do_read w0 a cap ms D H s who r pd pl cd cl w hm hc hc' h hbw hr hMD hMH hok hwho g hf hk
    · exact do_write w0 a cap ms D H s who r pd pl cd cl w hm hc hc' h hbw hr hMD hMH hok hwho g hf hk
    · exact do_hold w0 a cap ms D H s who r pd pl cd cl w hm hc hc' h hbw hr hMD hMH hok hwho g hf hk
    · exact do_try w0 a cap ms D H s who r pd pl cd cl w hm hc hc' h hbw hr hMD hMH hok hwho g hf hk

/-- a region that stores a state (operation 3) and what came of it (operation 4) -/
structure CR (R8 R9 : Nat) (K : World → Value → Prop) (x : Array Value) (W0 : World) (d : Nat → Bool) (W : World) : Prop where
  kept : Kept (fun k => k = R8 ∨ k = R9) W0 W
  b8 : ∃ v0 v1, W.heap[R8]? = some (.cells #[v0, v1] 34 (0, 0)) ∧ (d 3 = true → K W (.agg #[v0, v1]))
  b9 : W.heap[R9]? = some (.cells (if d 4 then x else #[.int .i64 0, .int .i64 0, .slice none 0 0]) 63 (0, 0))
  ne : R8 ≠ R9
theorem CR.step {R8 R9 : Nat} {K : World → Value → Prop} {x : Array Value} {W0 W : World} {d : Nat → Bool} {i : Nat} (h3 : 3 ≠ i) (h4 : 4 ≠ i) (h : CR R8 R9 K x W0 d W) : CR R8 R9 K x W0 (updB d i) W :=
  ⟨h.kept, by rw [updB_ne d h3]; exact h.b8, by rw [updB_ne d h4]; exact h.b9, h.ne⟩
theorem CR.grow {R8 R9 : Nat} {K : World → Value → Prop} {x : Array Value} {W0 W W' : World} {d : Nat → Bool} {i : Nat} (hKg : ∀ w w' v, Gr w w' → K w v → K w' v) (h3 : 3 ≠ i) (h4 : 4 ≠ i) (h : CR R8 R9 K x W0 d W) (hg : Gr W W') : CR R8 R9 K x W0 (updB d i) W' := by
  refine ⟨h.kept.trans (Kept.of_below hg), ?_, by rw [updB_ne d h4]; exact hg.cells h.b9, h.ne⟩
  rw [updB_ne d h3]
  obtain ⟨v0, v1, h1, h2⟩ := h.b8
  exact ⟨v0, v1, hg.cells h1, fun hd => hKg _ _ _ hg (h2 hd)⟩
theorem CR.st {R8 R9 : Nat} {K : World → Value → Prop} {x : Array Value} {W0 W : World} {d : Nat → Bool} {v0 v1 : Value} (hKk : ∀ w w' v, Kept (fun k => k = R8 ∨ k = R9) w w' → K w v → K w' v) (h : CR R8 R9 K x W0 d W) (hv : K W (.agg #[v0, v1])) : CR R8 R9 K x W0 (updB d 3) ((W.setCell ⟨R8, 0, none⟩ v0).setCell ⟨R8, 1, none⟩ v1) := by
  have hk : Kept (fun k => k = R8 ∨ k = R9) W ((W.setCell ⟨R8, 0, none⟩ v0).setCell ⟨R8, 1, none⟩ v1) := (Kept.setCell (D := fun k => k = R8 ∨ k = R9) (p := ⟨R8, 0, none⟩) _ (.inl rfl) _).trans (Kept.setCell (D := fun k => k = R8 ∨ k = R9) (p := ⟨R8, 1, none⟩) _ (.inl rfl) _)
  obtain ⟨u0, u1, h1, h2⟩ := h.b8
  have hne := h.ne
  refine ⟨h.kept.trans hk, ⟨v0, v1, (heap_set (heap_set h1 0 v0) 1 v1).trans rfl, fun _ => hKk _ _ _ hk hv⟩, ?_, h.ne⟩
  rw [updB_ne d (by decide : (4 : Nat) ≠ 3)]
  exact (heap_set_ne (Ne.symm hne)).trans ((heap_set_ne (Ne.symm hne)).trans h.b9)
theorem CR.rs {R8 R9 : Nat} {K : World → Value → Prop} {x : Array Value} {W0 W : World} {d : Nat → Bool} {x0 x1 x2 : Value} (hKk : ∀ w w' v, Kept (fun k => k = R8 ∨ k = R9) w w' → K w v → K w' v) (h : CR R8 R9 K x W0 d W) (hx : x = #[x0, x1, x2]) (hd : d 4 = false) : CR R8 R9 K x W0 (updB d 4) (((W.setCell ⟨R9, 0, none⟩ x0).setCell ⟨R9, 1, none⟩ x1).setCell ⟨R9, 2, none⟩ x2) := by
  have hk := kept3 (fun k => k = R8 ∨ k = R9) W (b := R9) (.inr rfl) x0 x1 x2
  obtain ⟨u0, u1, h1, h2⟩ := h.b8
  have hne := h.ne
  have h9 := h.b9
  rw [hd] at h9
  refine ⟨h.kept.trans hk, ?_, ?_, h.ne⟩
  · rw [updB_ne d (by decide : (3 : Nat) ≠ 4)]
    exact ⟨u0, u1, (heap_set_ne hne).trans ((heap_set_ne hne).trans ((heap_set_ne hne).trans h1)), fun hd => hKk _ _ _ hk (h2 hd)⟩
  · rw [updB_self, hx]
    exact set3 h9 x0 x1 x2

def fl_atmE (D R8 R9 X : Nat) (K : World → Value → Prop) (x : Array Value) : List Fact := [
  fIs 31 (.pointer (some ⟨D, 0, none⟩)),
  fK 32 K,
  fIs 33 (.agg x),
  ⟨[], [], fun _ _ _ => True⟩,
  ⟨[], [], fun _ _ _ => True⟩]

theorem st_atmE (D R8 R9 X : Nat) (K : World → Value → Prop) (x : Array Value) (hKg : ∀ w w' v, Gr w w' → K w v → K w' v) : ∀ F ∈ fl_atmE D R8 R9 X K x, F.Stab :=
  stab_cons (fIs_stab _ _) <|
  stab_cons (fK_stab hKg) <|
  stab_cons (fIs_stab _ _) <|
  stab_cons (fun _ _ _ _ _ h => h) <|
  stab_cons (fun _ _ _ _ _ h => h) stab_nil

theorem kept_atmE (D R8 R9 X : Nat) (K : World → Value → Prop) (x : Array Value) (hKk : ∀ w w' v, Kept (fun k => k = R8 ∨ k = R9) w w' → K w v → K w' v) : ∀ j, ([] : List Nat).contains j = false → ∀ s d w w', Kept (fun k => k = R8 ∨ k = R9) w w' → (factsOf (fl_atmE D R8 R9 X K x) j).body s d w → (factsOf (fl_atmE D R8 R9 X K x) j).body s d w' := by
  intro j _ s d w w' hk hb
  rcases j with _ | _ | _ | _ | _ | j
  case succ.zero => exact hKk _ _ _ hk hb
  all_goals exact hb

theorem atmZ_no {ms : List Rng} {s : Stt} {who : Int} {r : Req} (h : atmOkB ms s who r = false) : atmZ ms s who r = (⟨[], []⟩, ⟨0, 0, []⟩) := by unfold atmZ; rw [h]; rfl
theorem atmZ_ok {ms : List Rng} {s : Stt} {who : Int} {r : Req} (h : atmOkB ms s who r = true) : atmZ ms s who r = atmDo ms s who r := by unfold atmZ; rw [h]; rfl
theorem atmOk_eq (ms : List Rng) (s : Stt) (who : Int) (r : Req) : atmOkB ms s who r = ((mapOkB ms && (stOkB s && inB who 0 2)) && reqOkB r) := by
  unfold atmOkB
  cases mapOkB ms <;> cases stOkB s <;> cases inB who 0 2 <;> cases reqOkB r <;> rfl

end Go.Proofs.YtpamjkkghghggaaGreat
