/-
  ReqSlave of the program: the one range that answers a burst.
-/
import Derived.Test.YtlifkfemdknndaaProg
import Derived.Test.YtlifkfemdknndaaReqM
import Derived.Test.YtlifkfemdknndaaAllAre
import Derived.Handy
import Derived.Test.YtlifkfemdknndaaReqS
import Derived.Test.YtlifkfemdknndaaPInt
import Derived.Test.YtlifkfemdknndaaBurstM
import Derived.Test.YtlifkfemdknndaaIRow
import Derived.Test.YtlifkfemdknndaaPure
import Derived.Test.YtlifkfemdknndaaMapCM
import Derived.Laws.ResultCell
import Derived.Laws.Rows
/-
  What is asked, of the program: names, kinds, words.
-/
namespace Go.Proofs.Ytlifkfemdknndaa
open Go.RowKit
set_option linter.unusedSimpArgs false
set_option linter.unusedVariables false

theorem nameOk_any (n : Int) (w : World) :
    Calls Try.prog 75 #[.int .i64 n] w fun e w' => e = .returned (.bool (inB n 0 1)) ∧ w' = w := by
  by_cases h1 : 0 ≤ n
  · by_cases h2 : n < 2
    · go_enter Try.func75, Try.ntmps75
      go_wp2
      go_ret
      exact ⟨by simp [inB]; omega, rfl⟩
    · have hd : decide (n < 2) = false := by simpa using h2
      go_enter Try.func75, Try.ntmps75
      go_wp2
      go_ret
      exact ⟨by simp [inB]; omega, rfl⟩
  · have hd : decide (0 ≤ n) = false := by simpa using h1
    go_enter Try.func75, Try.ntmps75
    go_wp2
    go_ret
    exact ⟨by simp [inB]; omega, rfl⟩

theorem noneB_eq (r : Req) : reqNoneB r = (((r.data.length : Int) == 0) && ((r.lanes.length : Int) == 0)) := by
  have e3 : ∀ n : Nat, decide (n = 0) = ((n : Int) == 0) := fun n => by rw [Bool.eq_iff_iff]; simp
  unfold reqNoneB
  rw [e3, e3]

theorem wordsB_eq (r : Req) : reqWordsB r = (((r.data.length : Int) == r.many) && (((r.lanes.length : Int) == r.many) && (allIn r.data 0 65535 && allIn r.lanes 0 3))) := by
  have e2 : ∀ a b : Int, decide (a = b) = (a == b) := fun a b => by rw [Bool.eq_iff_iff]; simp
  unfold reqWordsB
  rw [e2, e2]

theorem noWords_any (r : Req) (pd pl : Option Addr) (cd cl : Nat) (w : World) :
    Calls Try.prog 123 #[reqV r pd cd pl cl] w fun e w' => e = .returned (.bool (reqNoneB r)) ∧ Below w.heap.size w w' := by
  have hbl : ∀ o, Below w.heap.size w (w.alloc o) := fun o => (Below.refl _ w).alloc (Nat.le_refl _) o
  have HE := Hid.intro (noneB_eq r)
  unfold reqV
  cases d0 : ((r.data.length : Int) == 0)
  · go_enter Try.func123, Try.ntmps123
    go_wp2
    go_ret
    exact ⟨by rw [HE.out, d0]; rfl, hbl _⟩
  · go_enter Try.func123, Try.ntmps123
    go_wp2
    go_ret
    exact ⟨by rw [HE.out, d0]; rfl, hbl _⟩

set_option maxRecDepth 100000 in
set_option maxHeartbeats 1000000 in
theorem itsWords_any (r : Req) (pd pl : Option Addr) (cd cl : Nat) (w : World) (h : ReqAt w r pd cd pl cl) :
    Calls Try.prog 130 #[reqV r pd cd pl cl] w fun e w' => e = .returned (.bool (reqWordsB r)) ∧ Below w.heap.size w w' := by
  have hbl : ∀ o, Below w.heap.size w (w.alloc o) := fun o => (Below.refl _ w).alloc (Nat.le_refl _) o
  have HE := Hid.intro (wordsB_eq r)
  have H1 := Hid.intro (fun o => allAre_w pd cd r.data (w.alloc o) (h.below (hbl o)).data h.cd1 h.cd2)
  have H2 := Hid.intro (fun o => allAre_l pl cl r.lanes (w.alloc o) (h.below (hbl o)).lanes h.cl1 h.cl2)
  clear h
  unfold reqV
  cases d0 : ((r.data.length : Int) == r.many)
  · go_enter Try.func130, Try.ntmps130
    go_wp2
    go_ret
    exact ⟨by rw [HE.out, d0]; rfl, hbl _⟩
  cases d1 : ((r.lanes.length : Int) == r.many)
  · go_enter Try.func130, Try.ntmps130
    go_wp2
    go_ret
    exact ⟨by rw [HE.out, d0, d1]; rfl, hbl _⟩
  cases d2 : allIn r.data 0 65535
  · go_enter Try.func130, Try.ntmps130
    go_wp2_with fail
    refine (H1.out _).mono ?_
    rintro e w' ⟨rfl, rfl⟩
    rw [d2]
    go_wp2
    go_ret
    exact ⟨by rw [HE.out, d0, d1, d2]; rfl, hbl _⟩
  · go_enter Try.func130, Try.ntmps130
    go_wp2_with fail
    refine (H1.out _).mono ?_
    rintro e w' ⟨rfl, rfl⟩
    rw [d2]
    go_wp2_with fail
    refine (H2.out _).mono ?_
    rintro e w' ⟨rfl, rfl⟩
    go_wp2
    go_ret
    exact ⟨by rw [HE.out, d0, d1, d2]; rfl, hbl _⟩

end Go.Proofs.Ytlifkfemdknndaa

/-
  What ReqOk, RspOk and ReqSlave of the program are asked to answer.
-/
namespace Go.Proofs.Ytlifkfemdknndaa
open Go.RowKit

/-- ReqOk of the program answers so -/
def ReqOkC : Prop := ∀ (r : Req) (pd pl : Option Addr) (cd cl : Nat) (w : World), ReqAt w r pd cd pl cl → Calls Try.prog 47 #[reqV r pd cd pl cl] w fun e w' => e = .returned (.bool (reqOkB r)) ∧ Below w.heap.size w w'

/-- ReqSlave of the program answers so -/
def ReqSlaveC : Prop := ∀ (a : Option Addr) (cap : Nat) (ms : List Rng) (r : Req) (pd pl : Option Addr) (cd cl : Nat) (w : World), RowOf w a ms → ms.length ≤ cap → cap ≤ 9223372036854775807 → ReqAt w r pd cd pl cl →
    Calls Try.prog 18 #[.slice a ms.length cap, reqV r pd cd pl cl] w fun e w' => e = .returned (.int .i64 (reqSlaveZ ms r)) ∧ Below w.heap.size w w'

end Go.Proofs.Ytlifkfemdknndaa

/-
  ReqOk of the program: each kind shows itself to a visitor.
-/
namespace Go.Proofs.Ytlifkfemdknndaa
open Go.RowKit
set_option linter.unusedSimpArgs false
set_option linter.unusedVariables false

theorem heap_new (w : World) (o : Obj) : (w.alloc o).heap[w.heap.size]? = some o := by
  show (w.heap.push o)[w.heap.size]? = some o
  simp

set_option maxRecDepth 100000 in
set_option maxHeartbeats 1000000 in
theorem needs_read (r : Req) (pd pl : Option Addr) (cd cl : Nat) (bn : Nat) (b : Bool) (w : World) (hn : w.heap[bn]? = some (.cells #[.bool b] 105 (0, 0))) (h : ReqAt w r pd cd pl cl) :
    Calls Try.prog 127 #[.pointer (some ⟨bn, 0, none⟩), reqV r pd cd pl cl] w fun e w' => (∃ v, e = .returned v) ∧ w'.cell? ⟨bn, 0, none⟩ = some (.bool (reqNoneB r)) ∧ Below bn w w' := by
  have hbl : ∀ o, Below w.heap.size w (w.alloc o) := fun o => (Below.refl _ w).alloc (Nat.le_refl _) o
  have hlt : bn < w.heap.size := (Array.getElem?_eq_some_iff.1 hn).1
  have HC := Hid.intro (fun o => noWords_any r pd pl cd cl (w.alloc o))
  clear h
  unfold reqV
  go_enter Try.func127, Try.ntmps127
  go_wp2_with fail
  refine (HC.out _).mono ?_
  rintro e w1 ⟨rfl, hb1⟩
  have hn1 : w1.heap[bn]? = some (.cells #[.bool b] 105 (0, 0)) := (hb1.block bn (by simp; omega)).trans ((Below.heap_alloc _ _ _ hlt).trans hn)
  have hc1 : w1.cell? ⟨bn, 0, none⟩ = some (.bool b) := (heap_cell hn1 0).trans rfl
  have hf1 := heap_free hn1 0
  have hbb : Below bn w w1 := ((hbl _).mono (by omega)).trans (hb1.mono (by simp; omega))
  clear hb1 hn hn1
  go_wp2
  go_returns
  refine ⟨⟨_, rfl⟩, ?_, hbb.setCell (p := ⟨bn, 0, none⟩) (Nat.le_refl _) _⟩
  exact World.cell?_setCell_same _ _ _ hc1

set_option maxRecDepth 100000 in
set_option maxHeartbeats 1000000 in
theorem show_read (r : Req) (pd pl : Option Addr) (cd cl : Nat) (bn : Nat) (b : Bool) (w : World) (hn : w.heap[bn]? = some (.cells #[.bool b] 105 (0, 0))) (h : ReqAt w r pd cd pl cl) :
    Calls Try.prog 120 #[reqV r pd cd pl cl, .iface 107 (.pointer (some ⟨bn, 0, none⟩))] w fun e w' => (∃ v, e = .returned v) ∧ w'.cell? ⟨bn, 0, none⟩ = some (.bool (reqNoneB r)) ∧ Below bn w w' := by
  have hbl : ∀ o, Below w.heap.size w (w.alloc o) := fun o => (Below.refl _ w).alloc (Nat.le_refl _) o
  have hlt : bn < w.heap.size := (Array.getElem?_eq_some_iff.1 hn).1
  have HC := Hid.intro (fun o => needs_read r pd pl cd cl bn b (w.alloc o) ((Below.heap_alloc _ _ _ hlt).trans hn) (h.below (hbl o)))
  clear h hn
  unfold reqV
  go_enter Try.func120, Try.ntmps120
  go_wp2_with fail
  refine (HC.out _).mono ?_
  rintro e w1 ⟨⟨v, rfl⟩, hc1, hb1⟩
  have hbb : Below bn w w1 := ((hbl _).mono (by omega)).trans hb1
  clear hb1
  go_wp2
  go_returns
  exact ⟨⟨_, rfl⟩, hc1, hbb⟩

theorem kind_read (r : Req) (pd pl : Option Addr) (cd cl : Nat) (w : World) (h : r.kind = 1) :
    Calls Try.prog 74 #[reqV r pd cd pl cl] w fun e w' => e = .returned (.tuple #[.iface 130 (reqV r pd cd pl cl), .bool true]) ∧ Below w.heap.size w w' := by
  have hbl : ∀ o, Below w.heap.size w (w.alloc o) := fun o => (Below.refl _ w).alloc (Nat.le_refl _) o
  unfold reqV
  rw [h]
  go_enter Try.func74, Try.ntmps74
  go_wp2
  go_returns
  exact ⟨rfl, hbl _⟩

theorem ok_read_eq (r : Req) (h : r.kind = 1) : reqOkB r = (inB r.id 0 1 && (adrOkB r.addr r.many r.wrap && (reqNoneB r))) := by
  have e2 : ∀ a b : Int, decide (a = b) = (a == b) := fun a b => by rw [Bool.eq_iff_iff]; simp
  unfold reqOkB reqHeadB reqOneB writesB
  rw [h]
  simp [inB, Bool.and_assoc]

set_option maxRecDepth 100000 in
set_option maxHeartbeats 1000000 in
theorem ok_read (r : Req) (pd pl : Option Addr) (cd cl : Nat) (w : World) (h : ReqAt w r pd cd pl cl) (hk : r.kind = 1) :
    Calls Try.prog 47 #[reqV r pd cd pl cl] w fun e w' => e = .returned (.bool (reqOkB r)) ∧ Below w.heap.size w w' := by
  have hbl : ∀ o, Below w.heap.size w (w.alloc o) := fun o => (Below.refl _ w).alloc (Nat.le_refl _) o
  have HE := Hid.intro (ok_read_eq r hk)
  have HK := Hid.intro (fun W => kind_read r pd pl cd cl W hk)
  have HS := Hid.intro (fun bn b W h1 h2 => show_read r pd pl cd cl bn b W h1 h2)
  have HA := Hid.intro h
  clear h hk
  obtain ⟨rv, hrv⟩ : ∃ rv, rv = reqV r pd cd pl cl := ⟨_, rfl⟩
  have HR := Hid.intro hrv
  unfold reqV at hrv
  clear hrv
  unfold reqV
  go_enter Try.func47, Try.ntmps47
  go_wp2_with fail
  refine (HK.out _).mono ?_
  rintro e w1 ⟨rfl, hb1⟩
  obtain ⟨c0, c1, c2, c3, c4, c5, c6⟩ := box7 hb1
  have hs1 := hb1.size
  simp at hs1
  have hb1' := (hbl _).trans (hb1.mono (hbl _).size)
  have hA1 := Hid.intro (HA.out.below hb1')
  clear hb1 HA HK
  cases h1 : inB r.id 0 1
  · go_wp2_with (go_at_call 75; refine (nameOk_any _ _).mono ?_; rintro e w' ⟨rfl, hw⟩; replace hw := hw.symm; subst hw)
    go_ret
    exact ⟨by rw [HE.out, h1]; rfl, hb1'⟩
  cases h2 : adrOkB r.addr r.many r.wrap
  · go_wp2_with (first | (go_at_call 75; refine (nameOk_any _ _).mono ?_; rintro e w' ⟨rfl, hw⟩; replace hw := hw.symm; subst hw) | (go_at_call 36; refine (impl_AdrOk _ _ _ _).mono ?_; rintro e w' ⟨rfl, hw⟩; replace hw := hw.symm; subst hw))
    go_ret
    exact ⟨by rw [HE.out, h1, h2]; rfl, hb1'⟩
  go_wp2_with (first | (go_at_call 75; refine (nameOk_any _ _).mono ?_; rintro e w' ⟨rfl, hw⟩; replace hw := hw.symm; subst hw) | (go_at_call 36; refine (impl_AdrOk _ _ _ _).mono ?_; rintro e w' ⟨rfl, hw⟩; replace hw := hw.symm; subst hw))
  refine (HS.out w1.heap.size false _ (heap_new _ _) (hA1.out.below ((Below.refl _ w1).alloc (Nat.le_refl _) _))).mono ?_
  rintro e w2 ⟨⟨v, rfl⟩, hc2, hb2⟩
  have hb2' := hb1'.trans ((((Below.refl _ w1).alloc (Nat.le_refl _) _).trans hb2).mono hb1'.size)
  clear hb2 hA1 c0 c1 c2 c3 c4 c5 c6 HS
  go_wp2
  go_ret
  exact ⟨by rw [HE.out, h1, h2]; rfl, hb2'⟩

set_option maxRecDepth 100000 in
set_option maxHeartbeats 1000000 in
theorem needs_write (r : Req) (pd pl : Option Addr) (cd cl : Nat) (bn : Nat) (b : Bool) (w : World) (hn : w.heap[bn]? = some (.cells #[.bool b] 105 (0, 0))) (h : ReqAt w r pd cd pl cl) :
    Calls Try.prog 129 #[.pointer (some ⟨bn, 0, none⟩), reqV r pd cd pl cl] w fun e w' => (∃ v, e = .returned v) ∧ w'.cell? ⟨bn, 0, none⟩ = some (.bool (reqWordsB r)) ∧ Below bn w w' := by
  have hbl : ∀ o, Below w.heap.size w (w.alloc o) := fun o => (Below.refl _ w).alloc (Nat.le_refl _) o
  have hlt : bn < w.heap.size := (Array.getElem?_eq_some_iff.1 hn).1
  have HC := Hid.intro (fun o => itsWords_any r pd pl cd cl (w.alloc o) (h.below (hbl o)))
  clear h
  unfold reqV
  go_enter Try.func129, Try.ntmps129
  go_wp2_with fail
  refine (HC.out _).mono ?_
  rintro e w1 ⟨rfl, hb1⟩
  have hn1 : w1.heap[bn]? = some (.cells #[.bool b] 105 (0, 0)) := (hb1.block bn (by simp; omega)).trans ((Below.heap_alloc _ _ _ hlt).trans hn)
  have hc1 : w1.cell? ⟨bn, 0, none⟩ = some (.bool b) := (heap_cell hn1 0).trans rfl
  have hf1 := heap_free hn1 0
  have hbb : Below bn w w1 := ((hbl _).mono (by omega)).trans (hb1.mono (by simp; omega))
  clear hb1 hn hn1
  go_wp2
  go_returns
  refine ⟨⟨_, rfl⟩, ?_, hbb.setCell (p := ⟨bn, 0, none⟩) (Nat.le_refl _) _⟩
  exact World.cell?_setCell_same _ _ _ hc1

set_option maxRecDepth 100000 in
set_option maxHeartbeats 1000000 in
theorem show_write (r : Req) (pd pl : Option Addr) (cd cl : Nat) (bn : Nat) (b : Bool) (w : World) (hn : w.heap[bn]? = some (.cells #[.bool b] 105 (0, 0))) (h : ReqAt w r pd cd pl cl) :
    Calls Try.prog 121 #[reqV r pd cd pl cl, .iface 107 (.pointer (some ⟨bn, 0, none⟩))] w fun e w' => (∃ v, e = .returned v) ∧ w'.cell? ⟨bn, 0, none⟩ = some (.bool (reqWordsB r)) ∧ Below bn w w' := by
  have hbl : ∀ o, Below w.heap.size w (w.alloc o) := fun o => (Below.refl _ w).alloc (Nat.le_refl _) o
  have hlt : bn < w.heap.size := (Array.getElem?_eq_some_iff.1 hn).1
  have HC := Hid.intro (fun o => needs_write r pd pl cd cl bn b (w.alloc o) ((Below.heap_alloc _ _ _ hlt).trans hn) (h.below (hbl o)))
  clear h hn
  unfold reqV
  go_enter Try.func121, Try.ntmps121
  go_wp2_with fail
  refine (HC.out _).mono ?_
  rintro e w1 ⟨⟨v, rfl⟩, hc1, hb1⟩
  have hbb : Below bn w w1 := ((hbl _).mono (by omega)).trans hb1
  clear hb1
  go_wp2
  go_returns
  exact ⟨⟨_, rfl⟩, hc1, hbb⟩

theorem kind_write (r : Req) (pd pl : Option Addr) (cd cl : Nat) (w : World) (h : r.kind = 2) :
    Calls Try.prog 74 #[reqV r pd cd pl cl] w fun e w' => e = .returned (.tuple #[.iface 131 (reqV r pd cd pl cl), .bool true]) ∧ Below w.heap.size w w' := by
  have hbl : ∀ o, Below w.heap.size w (w.alloc o) := fun o => (Below.refl _ w).alloc (Nat.le_refl _) o
  unfold reqV
  rw [h]
  go_enter Try.func74, Try.ntmps74
  go_wp2
  go_returns
  exact ⟨rfl, hbl _⟩

theorem ok_write_eq (r : Req) (h : r.kind = 2) : reqOkB r = (inB r.id 0 1 && (adrOkB r.addr r.many r.wrap && (reqWordsB r))) := by
  have e2 : ∀ a b : Int, decide (a = b) = (a == b) := fun a b => by rw [Bool.eq_iff_iff]; simp
  unfold reqOkB reqHeadB reqOneB writesB
  rw [h]
  simp [inB, Bool.and_assoc]

set_option maxRecDepth 100000 in
set_option maxHeartbeats 1000000 in
theorem ok_write (r : Req) (pd pl : Option Addr) (cd cl : Nat) (w : World) (h : ReqAt w r pd cd pl cl) (hk : r.kind = 2) :
    Calls Try.prog 47 #[reqV r pd cd pl cl] w fun e w' => e = .returned (.bool (reqOkB r)) ∧ Below w.heap.size w w' := by
  have hbl : ∀ o, Below w.heap.size w (w.alloc o) := fun o => (Below.refl _ w).alloc (Nat.le_refl _) o
  have HE := Hid.intro (ok_write_eq r hk)
  have HK := Hid.intro (fun W => kind_write r pd pl cd cl W hk)
  have HS := Hid.intro (fun bn b W h1 h2 => show_write r pd pl cd cl bn b W h1 h2)
  have HA := Hid.intro h
  clear h hk
  obtain ⟨rv, hrv⟩ : ∃ rv, rv = reqV r pd cd pl cl := ⟨_, rfl⟩
  have HR := Hid.intro hrv
  unfold reqV at hrv
  clear hrv
  unfold reqV
  go_enter Try.func47, Try.ntmps47
  go_wp2_with fail
  refine (HK.out _).mono ?_
  rintro e w1 ⟨rfl, hb1⟩
  obtain ⟨c0, c1, c2, c3, c4, c5, c6⟩ := box7 hb1
  have hs1 := hb1.size
  simp at hs1
  have hb1' := (hbl _).trans (hb1.mono (hbl _).size)
  have hA1 := Hid.intro (HA.out.below hb1')
  clear hb1 HA HK
  cases h1 : inB r.id 0 1
  · go_wp2_with (go_at_call 75; refine (nameOk_any _ _).mono ?_; rintro e w' ⟨rfl, hw⟩; replace hw := hw.symm; subst hw)
    go_ret
    exact ⟨by rw [HE.out, h1]; rfl, hb1'⟩
  cases h2 : adrOkB r.addr r.many r.wrap
  · go_wp2_with (first | (go_at_call 75; refine (nameOk_any _ _).mono ?_; rintro e w' ⟨rfl, hw⟩; replace hw := hw.symm; subst hw) | (go_at_call 36; refine (impl_AdrOk _ _ _ _).mono ?_; rintro e w' ⟨rfl, hw⟩; replace hw := hw.symm; subst hw))
    go_ret
    exact ⟨by rw [HE.out, h1, h2]; rfl, hb1'⟩
  go_wp2_with (first | (go_at_call 75; refine (nameOk_any _ _).mono ?_; rintro e w' ⟨rfl, hw⟩; replace hw := hw.symm; subst hw) | (go_at_call 36; refine (impl_AdrOk _ _ _ _).mono ?_; rintro e w' ⟨rfl, hw⟩; replace hw := hw.symm; subst hw))
  refine (HS.out w1.heap.size false _ (heap_new _ _) (hA1.out.below ((Below.refl _ w1).alloc (Nat.le_refl _) _))).mono ?_
  rintro e w2 ⟨⟨v, rfl⟩, hc2, hb2⟩
  have hb2' := hb1'.trans ((((Below.refl _ w1).alloc (Nat.le_refl _) _).trans hb2).mono hb1'.size)
  clear hb2 hA1 c0 c1 c2 c3 c4 c5 c6 HS
  go_wp2
  go_ret
  exact ⟨by rw [HE.out, h1, h2]; rfl, hb2'⟩

set_option maxRecDepth 100000 in
set_option maxHeartbeats 1000000 in
theorem needs_hold (r : Req) (pd pl : Option Addr) (cd cl : Nat) (bn : Nat) (b : Bool) (w : World) (hn : w.heap[bn]? = some (.cells #[.bool b] 105 (0, 0))) (h : ReqAt w r pd cd pl cl) :
    Calls Try.prog 118 #[.pointer (some ⟨bn, 0, none⟩), reqV r pd cd pl cl] w fun e w' => (∃ v, e = .returned v) ∧ w'.cell? ⟨bn, 0, none⟩ = some (.bool (((r.many == 1) && reqNoneB r))) ∧ Below bn w w' := by
  have hbl : ∀ o, Below w.heap.size w (w.alloc o) := fun o => (Below.refl _ w).alloc (Nat.le_refl _) o
  have hlt : bn < w.heap.size := (Array.getElem?_eq_some_iff.1 hn).1
  have HC := Hid.intro (fun o => noWords_any r pd pl cd cl (w.alloc o))
  clear h
  unfold reqV
  cases d0 : (r.many == 1)
  · go_enter Try.func118, Try.ntmps118
    have hc1 : w.cell? ⟨bn, 0, none⟩ = some (.bool b) := (heap_cell hn 0).trans rfl
    have hf1 := heap_free hn 0
    go_wp2
    go_returns
    refine ⟨⟨_, rfl⟩, (heap_cell ((Below.heap_alloc _ _ _ (by simp; omega)).trans (heap_set hn 0 (.bool false))) 0).trans rfl, ((Below.refl bn w).setCell (p := ⟨bn, 0, none⟩) (Nat.le_refl _) _).alloc (by simp; omega) _⟩
  go_enter Try.func118, Try.ntmps118
  go_wp2_with fail
  refine (HC.out _).mono ?_
  rintro e w1 ⟨rfl, hb1⟩
  have hn1 : w1.heap[bn]? = some (.cells #[.bool b] 105 (0, 0)) := (hb1.block bn (by simp; omega)).trans ((Below.heap_alloc _ _ _ hlt).trans hn)
  have hc1 : w1.cell? ⟨bn, 0, none⟩ = some (.bool b) := (heap_cell hn1 0).trans rfl
  have hf1 := heap_free hn1 0
  have hbb : Below bn w w1 := ((hbl _).mono (by omega)).trans (hb1.mono (by simp; omega))
  clear hb1 hn hn1
  go_wp2
  go_returns
  refine ⟨⟨_, rfl⟩, ?_, hbb.setCell (p := ⟨bn, 0, none⟩) (Nat.le_refl _) _⟩
  exact World.cell?_setCell_same _ _ _ hc1

set_option maxRecDepth 100000 in
set_option maxHeartbeats 1000000 in
theorem show_hold (r : Req) (pd pl : Option Addr) (cd cl : Nat) (bn : Nat) (b : Bool) (w : World) (hn : w.heap[bn]? = some (.cells #[.bool b] 105 (0, 0))) (h : ReqAt w r pd cd pl cl) :
    Calls Try.prog 122 #[reqV r pd cd pl cl, .iface 107 (.pointer (some ⟨bn, 0, none⟩))] w fun e w' => (∃ v, e = .returned v) ∧ w'.cell? ⟨bn, 0, none⟩ = some (.bool (((r.many == 1) && reqNoneB r))) ∧ Below bn w w' := by
  have hbl : ∀ o, Below w.heap.size w (w.alloc o) := fun o => (Below.refl _ w).alloc (Nat.le_refl _) o
  have hlt : bn < w.heap.size := (Array.getElem?_eq_some_iff.1 hn).1
  have HC := Hid.intro (fun o => needs_hold r pd pl cd cl bn b (w.alloc o) ((Below.heap_alloc _ _ _ hlt).trans hn) (h.below (hbl o)))
  clear h hn
  unfold reqV
  go_enter Try.func122, Try.ntmps122
  go_wp2_with fail
  refine (HC.out _).mono ?_
  rintro e w1 ⟨⟨v, rfl⟩, hc1, hb1⟩
  have hbb : Below bn w w1 := ((hbl _).mono (by omega)).trans hb1
  clear hb1
  go_wp2
  go_returns
  exact ⟨⟨_, rfl⟩, hc1, hbb⟩

theorem kind_hold (r : Req) (pd pl : Option Addr) (cd cl : Nat) (w : World) (h : r.kind = 3) :
    Calls Try.prog 74 #[reqV r pd cd pl cl] w fun e w' => e = .returned (.tuple #[.iface 132 (reqV r pd cd pl cl), .bool true]) ∧ Below w.heap.size w w' := by
  have hbl : ∀ o, Below w.heap.size w (w.alloc o) := fun o => (Below.refl _ w).alloc (Nat.le_refl _) o
  unfold reqV
  rw [h]
  go_enter Try.func74, Try.ntmps74
  go_wp2
  go_returns
  exact ⟨rfl, hbl _⟩

theorem ok_hold_eq (r : Req) (h : r.kind = 3) : reqOkB r = (inB r.id 0 1 && (adrOkB r.addr r.many r.wrap && (((r.many == 1) && reqNoneB r)))) := by
  have e2 : ∀ a b : Int, decide (a = b) = (a == b) := fun a b => by rw [Bool.eq_iff_iff]; simp
  unfold reqOkB reqHeadB reqOneB writesB
  rw [h]
  simp [inB, Bool.and_assoc]; rw [e2]

set_option maxRecDepth 100000 in
set_option maxHeartbeats 1000000 in
theorem ok_hold (r : Req) (pd pl : Option Addr) (cd cl : Nat) (w : World) (h : ReqAt w r pd cd pl cl) (hk : r.kind = 3) :
    Calls Try.prog 47 #[reqV r pd cd pl cl] w fun e w' => e = .returned (.bool (reqOkB r)) ∧ Below w.heap.size w w' := by
  have hbl : ∀ o, Below w.heap.size w (w.alloc o) := fun o => (Below.refl _ w).alloc (Nat.le_refl _) o
  have HE := Hid.intro (ok_hold_eq r hk)
  have HK := Hid.intro (fun W => kind_hold r pd pl cd cl W hk)
  have HS := Hid.intro (fun bn b W h1 h2 => show_hold r pd pl cd cl bn b W h1 h2)
  have HA := Hid.intro h
  clear h hk
  obtain ⟨rv, hrv⟩ : ∃ rv, rv = reqV r pd cd pl cl := ⟨_, rfl⟩
  have HR := Hid.intro hrv
  unfold reqV at hrv
  clear hrv
  unfold reqV
  go_enter Try.func47, Try.ntmps47
  go_wp2_with fail
  refine (HK.out _).mono ?_
  rintro e w1 ⟨rfl, hb1⟩
  obtain ⟨c0, c1, c2, c3, c4, c5, c6⟩ := box7 hb1
  have hs1 := hb1.size
  simp at hs1
  have hb1' := (hbl _).trans (hb1.mono (hbl _).size)
  have hA1 := Hid.intro (HA.out.below hb1')
  clear hb1 HA HK
  cases h1 : inB r.id 0 1
  · go_wp2_with (go_at_call 75; refine (nameOk_any _ _).mono ?_; rintro e w' ⟨rfl, hw⟩; replace hw := hw.symm; subst hw)
    go_ret
    exact ⟨by rw [HE.out, h1]; rfl, hb1'⟩
  cases h2 : adrOkB r.addr r.many r.wrap
  · go_wp2_with (first | (go_at_call 75; refine (nameOk_any _ _).mono ?_; rintro e w' ⟨rfl, hw⟩; replace hw := hw.symm; subst hw) | (go_at_call 36; refine (impl_AdrOk _ _ _ _).mono ?_; rintro e w' ⟨rfl, hw⟩; replace hw := hw.symm; subst hw))
    go_ret
    exact ⟨by rw [HE.out, h1, h2]; rfl, hb1'⟩
  go_wp2_with (first | (go_at_call 75; refine (nameOk_any _ _).mono ?_; rintro e w' ⟨rfl, hw⟩; replace hw := hw.symm; subst hw) | (go_at_call 36; refine (impl_AdrOk _ _ _ _).mono ?_; rintro e w' ⟨rfl, hw⟩; replace hw := hw.symm; subst hw))
  refine (HS.out w1.heap.size false _ (heap_new _ _) (hA1.out.below ((Below.refl _ w1).alloc (Nat.le_refl _) _))).mono ?_
  rintro e w2 ⟨⟨v, rfl⟩, hc2, hb2⟩
  have hb2' := hb1'.trans ((((Below.refl _ w1).alloc (Nat.le_refl _) _).trans hb2).mono hb1'.size)
  clear hb2 hA1 c0 c1 c2 c3 c4 c5 c6 HS
  go_wp2
  go_ret
  exact ⟨by rw [HE.out, h1, h2]; rfl, hb2'⟩

set_option maxRecDepth 100000 in
set_option maxHeartbeats 1000000 in
theorem needs_try (r : Req) (pd pl : Option Addr) (cd cl : Nat) (bn : Nat) (b : Bool) (w : World) (hn : w.heap[bn]? = some (.cells #[.bool b] 105 (0, 0))) (h : ReqAt w r pd cd pl cl) :
    Calls Try.prog 128 #[.pointer (some ⟨bn, 0, none⟩), reqV r pd cd pl cl] w fun e w' => (∃ v, e = .returned v) ∧ w'.cell? ⟨bn, 0, none⟩ = some (.bool (((r.many == 1) && reqWordsB r))) ∧ Below bn w w' := by
  have hbl : ∀ o, Below w.heap.size w (w.alloc o) := fun o => (Below.refl _ w).alloc (Nat.le_refl _) o
  have hlt : bn < w.heap.size := (Array.getElem?_eq_some_iff.1 hn).1
  have HC := Hid.intro (fun o => itsWords_any r pd pl cd cl (w.alloc o) (h.below (hbl o)))
  clear h
  unfold reqV
  cases d0 : (r.many == 1)
  · go_enter Try.func128, Try.ntmps128
    have hc1 : w.cell? ⟨bn, 0, none⟩ = some (.bool b) := (heap_cell hn 0).trans rfl
    have hf1 := heap_free hn 0
    go_wp2
    go_returns
    refine ⟨⟨_, rfl⟩, (heap_cell ((Below.heap_alloc _ _ _ (by simp; omega)).trans (heap_set hn 0 (.bool false))) 0).trans rfl, ((Below.refl bn w).setCell (p := ⟨bn, 0, none⟩) (Nat.le_refl _) _).alloc (by simp; omega) _⟩
  go_enter Try.func128, Try.ntmps128
  go_wp2_with fail
  refine (HC.out _).mono ?_
  rintro e w1 ⟨rfl, hb1⟩
  have hn1 : w1.heap[bn]? = some (.cells #[.bool b] 105 (0, 0)) := (hb1.block bn (by simp; omega)).trans ((Below.heap_alloc _ _ _ hlt).trans hn)
  have hc1 : w1.cell? ⟨bn, 0, none⟩ = some (.bool b) := (heap_cell hn1 0).trans rfl
  have hf1 := heap_free hn1 0
  have hbb : Below bn w w1 := ((hbl _).mono (by omega)).trans (hb1.mono (by simp; omega))
  clear hb1 hn hn1
  go_wp2
  go_returns
  refine ⟨⟨_, rfl⟩, ?_, hbb.setCell (p := ⟨bn, 0, none⟩) (Nat.le_refl _) _⟩
  exact World.cell?_setCell_same _ _ _ hc1

set_option maxRecDepth 100000 in
set_option maxHeartbeats 1000000 in
theorem show_try (r : Req) (pd pl : Option Addr) (cd cl : Nat) (bn : Nat) (b : Bool) (w : World) (hn : w.heap[bn]? = some (.cells #[.bool b] 105 (0, 0))) (h : ReqAt w r pd cd pl cl) :
    Calls Try.prog 125 #[reqV r pd cd pl cl, .iface 107 (.pointer (some ⟨bn, 0, none⟩))] w fun e w' => (∃ v, e = .returned v) ∧ w'.cell? ⟨bn, 0, none⟩ = some (.bool (((r.many == 1) && reqWordsB r))) ∧ Below bn w w' := by
  have hbl : ∀ o, Below w.heap.size w (w.alloc o) := fun o => (Below.refl _ w).alloc (Nat.le_refl _) o
  have hlt : bn < w.heap.size := (Array.getElem?_eq_some_iff.1 hn).1
  have HC := Hid.intro (fun o => needs_try r pd pl cd cl bn b (w.alloc o) ((Below.heap_alloc _ _ _ hlt).trans hn) (h.below (hbl o)))
  clear h hn
  unfold reqV
  go_enter Try.func125, Try.ntmps125
  go_wp2_with fail
  refine (HC.out _).mono ?_
  rintro e w1 ⟨⟨v, rfl⟩, hc1, hb1⟩
  have hbb : Below bn w w1 := ((hbl _).mono (by omega)).trans hb1
  clear hb1
  go_wp2
  go_returns
  exact ⟨⟨_, rfl⟩, hc1, hbb⟩

theorem kind_try (r : Req) (pd pl : Option Addr) (cd cl : Nat) (w : World) (h : r.kind = 4) :
    Calls Try.prog 74 #[reqV r pd cd pl cl] w fun e w' => e = .returned (.tuple #[.iface 133 (reqV r pd cd pl cl), .bool true]) ∧ Below w.heap.size w w' := by
  have hbl : ∀ o, Below w.heap.size w (w.alloc o) := fun o => (Below.refl _ w).alloc (Nat.le_refl _) o
  unfold reqV
  rw [h]
  go_enter Try.func74, Try.ntmps74
  go_wp2
  go_returns
  exact ⟨rfl, hbl _⟩

theorem ok_try_eq (r : Req) (h : r.kind = 4) : reqOkB r = (inB r.id 0 1 && (adrOkB r.addr r.many r.wrap && (((r.many == 1) && reqWordsB r)))) := by
  have e2 : ∀ a b : Int, decide (a = b) = (a == b) := fun a b => by rw [Bool.eq_iff_iff]; simp
  unfold reqOkB reqHeadB reqOneB writesB
  rw [h]
  simp [inB, Bool.and_assoc]; rw [e2]

set_option maxRecDepth 100000 in
set_option maxHeartbeats 1000000 in
theorem ok_try (r : Req) (pd pl : Option Addr) (cd cl : Nat) (w : World) (h : ReqAt w r pd cd pl cl) (hk : r.kind = 4) :
    Calls Try.prog 47 #[reqV r pd cd pl cl] w fun e w' => e = .returned (.bool (reqOkB r)) ∧ Below w.heap.size w w' := by
  have hbl : ∀ o, Below w.heap.size w (w.alloc o) := fun o => (Below.refl _ w).alloc (Nat.le_refl _) o
  have HE := Hid.intro (ok_try_eq r hk)
  have HK := Hid.intro (fun W => kind_try r pd pl cd cl W hk)
  have HS := Hid.intro (fun bn b W h1 h2 => show_try r pd pl cd cl bn b W h1 h2)
  have HA := Hid.intro h
  clear h hk
  obtain ⟨rv, hrv⟩ : ∃ rv, rv = reqV r pd cd pl cl := ⟨_, rfl⟩
  have HR := Hid.intro hrv
  unfold reqV at hrv
  clear hrv
  unfold reqV
  go_enter Try.func47, Try.ntmps47
  go_wp2_with fail
  refine (HK.out _).mono ?_
  rintro e w1 ⟨rfl, hb1⟩
  obtain ⟨c0, c1, c2, c3, c4, c5, c6⟩ := box7 hb1
  have hs1 := hb1.size
  simp at hs1
  have hb1' := (hbl _).trans (hb1.mono (hbl _).size)
  have hA1 := Hid.intro (HA.out.below hb1')
  clear hb1 HA HK
  cases h1 : inB r.id 0 1
  · go_wp2_with (go_at_call 75; refine (nameOk_any _ _).mono ?_; rintro e w' ⟨rfl, hw⟩; replace hw := hw.symm; subst hw)
    go_ret
    exact ⟨by rw [HE.out, h1]; rfl, hb1'⟩
  cases h2 : adrOkB r.addr r.many r.wrap
  · go_wp2_with (first | (go_at_call 75; refine (nameOk_any _ _).mono ?_; rintro e w' ⟨rfl, hw⟩; replace hw := hw.symm; subst hw) | (go_at_call 36; refine (impl_AdrOk _ _ _ _).mono ?_; rintro e w' ⟨rfl, hw⟩; replace hw := hw.symm; subst hw))
    go_ret
    exact ⟨by rw [HE.out, h1, h2]; rfl, hb1'⟩
  go_wp2_with (first | (go_at_call 75; refine (nameOk_any _ _).mono ?_; rintro e w' ⟨rfl, hw⟩; replace hw := hw.symm; subst hw) | (go_at_call 36; refine (impl_AdrOk _ _ _ _).mono ?_; rintro e w' ⟨rfl, hw⟩; replace hw := hw.symm; subst hw))
  refine (HS.out w1.heap.size false _ (heap_new _ _) (hA1.out.below ((Below.refl _ w1).alloc (Nat.le_refl _) _))).mono ?_
  rintro e w2 ⟨⟨v, rfl⟩, hc2, hb2⟩
  have hb2' := hb1'.trans ((((Below.refl _ w1).alloc (Nat.le_refl _) _).trans hb2).mono hb1'.size)
  clear hb2 hA1 c0 c1 c2 c3 c4 c5 c6 HS
  go_wp2
  go_ret
  exact ⟨by rw [HE.out, h1, h2]; rfl, hb2'⟩

theorem kind_no (r : Req) (pd pl : Option Addr) (cd cl : Nat) (w : World) (h1 : (r.kind == 1) = false) (h2 : (r.kind == 2) = false) (h3 : (r.kind == 3) = false) (h4 : (r.kind == 4) = false) :
    Calls Try.prog 74 #[reqV r pd cd pl cl] w fun e w' => e = .returned (.tuple #[.nilIface, .bool false]) ∧ Below w.heap.size w w' := by
  have hbl : ∀ o, Below w.heap.size w (w.alloc o) := fun o => (Below.refl _ w).alloc (Nat.le_refl _) o
  unfold reqV
  go_enter Try.func74, Try.ntmps74
  go_wp2
  go_returns
  exact ⟨rfl, hbl _⟩

theorem no_eq (r : Req) (h1 : (r.kind == 1) = false) (h2 : (r.kind == 2) = false) (h3 : (r.kind == 3) = false) (h4 : (r.kind == 4) = false) : reqOkB r = false := by
  have : inB r.kind 1 4 = false := inB_f (by simp at h1 h2 h3 h4; omega)
  simp [reqOkB, reqHeadB, this]

theorem impl_ReqOk : ReqOkC := by
  intro r pd pl cd cl w h
  cases h1 : (r.kind == 1)
  · cases h2 : (r.kind == 2)
    · cases h3 : (r.kind == 3)
      · cases h4 : (r.kind == 4)
        · have hbl : ∀ o, Below w.heap.size w (w.alloc o) := fun o => (Below.refl _ w).alloc (Nat.le_refl _) o
          have HE := Hid.intro (no_eq r h1 h2 h3 h4)
          have HK := Hid.intro (fun W => kind_no r pd pl cd cl W h1 h2 h3 h4)
          clear h h1 h2 h3 h4
          unfold reqV
          go_enter Try.func47, Try.ntmps47
          go_wp2_with fail
          refine (HK.out _).mono ?_
          rintro e w1 ⟨rfl, hb1⟩
          have hb1' := (hbl _).trans (hb1.mono (hbl _).size)
          clear hb1
          go_wp2
          go_ret
          exact ⟨by rw [HE.out]; rfl, hb1'⟩
        · exact ok_try r pd pl cd cl w h (by simpa using h4)
      · exact ok_hold r pd pl cd cl w h (by simpa using h3)
    · exact ok_write r pd pl cd cl w h (by simpa using h2)
  · exact ok_read r pd pl cd cl w h (by simpa using h1)

end Go.Proofs.Ytlifkfemdknndaa

/-
  A range over a function whose body may leave by a return: which element makes it leave is known ('stop').
-/
namespace Go.Proofs.Ytlifkfemdknndaa
open Go.RowKit Go.Shelf
set_option linter.unusedSimpArgs false
set_option linter.unusedVariables false
attribute [local go_sem] Oper.semAt_some

/-- what an invariant says, it says of blocks below M -/
def LocW (M : Nat) (S : World → Prop) : Prop := ∀ A B, S A → Below M A B → S B

/-- an iterator that tells xs to a body that leaves at the first x with 'stop x' -/
def ItSt {α : Type} (P : Program) (gf : Nat) (lb : Array Value) (enc : α → Value) (Cap : World → Prop) (CB : Nat → Prop) (xs : List α) : Prop :=
  ∀ (D : Nat → Prop) (l : Nat) (stop : α → Bool) (J : List α → World → Prop) (S : World → Prop) (W : World),
    (∀ k, D k → k < W.heap.size) → (∀ k, CB k → ¬ D k ∧ k < W.heap.size) → Cap W → Loc W.heap.size J → LocW W.heap.size S →
    (∀ pre x W1 m, J pre W1 → pre ++ [x] <+: xs → YieldAt Fence.wide m P l #[enc x] W1 fun e W' => e = .returned (.bool (!stop x)) ∧ ((stop x = false → J (pre ++ [x]) W') ∧ (stop x = true → S W')) ∧ Kept D W1 W') →
    J [] W → ∀ n, CallsIn Fence.wide n P gf (#[.func (.yield l) #[] #[]] ++ lb) W fun e W' => (∃ v, e = .returned v) ∧ ((xs.any stop = false → J xs W') ∧ (xs.any stop = true → S W')) ∧ Kept D W W'

def stPost {α : Type} (D : Nat → Prop) (I : List α → World → Prop) (S : World → Prop) (xs : List α) (b : Bool) (W : World) : Exit → Act → World → Prop
  | .normal, _, W' => b = false ∧ Kept D W W' ∧ I xs W'
  | .ret, _, W' => b = true ∧ Kept D W W' ∧ S W'
  | .exit _, _, _ => False
  | .goto _, _, _ => False
  | .panic _, _, _ => False
  | .outgrown, _, _ => False

theorem wpIn_rangeS {α : Type} {P : Program} {n : Nat} {g : Operand} {ps : Array Tmp} {assign body : Code} {Q : Exit → Act → World → Prop} {a : Act} {w : World}
    {gf : Nat} {lb : Array Value} (hg : a.eval g = .func (.func gf) #[] lb) (eg : ∀ args w, (callFunc gf args).run P w = .ok (.enter gf args) w)
    {enc : α → Value} {Cap : World → Prop} {CB : Nat → Prop} {xs : List α} (hseq : ItSt P gf lb enc Cap CB xs) (hcap : ∀ W, Below w.heap.size w W → Cap W) (D : Nat → Prop)
    (hD : ∀ k, D k → k < w.heap.size) (hCB : ∀ k, CB k → ¬ D k ∧ k < w.heap.size) (hps : ps.size = 1) (stop : α → Bool)
    (I : List α → World → Prop) (S : World → Prop) (hI : Loc w.heap.size I) (hS : LocW w.heap.size S) (h0 : I [] w) (a₁ : α → Act)
    (hassign : ∀ (l : Nat) (x : α) (W : World) (m : Nat) (K : Act → World → Prop), K (a₁ x) W →
      assign.wpIn (Fence.wide.inRound l) m P (Exit.then K (fun _ _ _ => False)) { tmps := (ps.zip #[enc x]).foldl (fun t (p, v) => t.setIfInBounds p v) a.tmps, defers := [] } W)
    (hbody : ∀ (l : Nat) (pre : List α) (x : α) (W : World) (m : Nat), I pre W → pre ++ [x] <+: xs → body.wpIn (Fence.wide.inRound l) m P (stPost D I S (pre ++ [x]) (stop x) W) (a₁ x) W)
    (hdone : ∀ (B : Nat) (W : World), w.heap.size ≤ B → xs.any stop = false → I xs W → W.heap[B]? = some (.deferred (some [])) → Q .normal { a with defers := { target := .collected B, args := #[] } :: a.defers } W)
    (hstop : ∀ (B : Nat) (W : World), w.heap.size ≤ B → xs.any stop = true → S W → W.heap[B]? = some (.deferred (some [])) → Code.ret.wpIn Fence.wide n P Q { a with defers := { target := .collected B, args := #[] } :: a.defers } W) :
    (Code.rangeFunc g ps assign body).wpIn Fence.wide n P Q a w := by
  refine wpIn_rangeFunc ?_
  intro fn hfn
  show ∃ l mark w₁ d w₁' f args w₂, (Instr.enterLoop fn a.tmps ps assign body none).run P w = _ ∧ _
  obtain ⟨rec, hrec⟩ : ∃ rec : LoopState → Option Code → Loop, rec = fun st pe => { state := st, pending := pe, fn, tmps := a.tmps, params := ps, assign, body, defers := w.heap.size } := ⟨_, rfl⟩
  obtain ⟨W1, hW1⟩ : ∃ W1, (w.alloc (.deferred (some []))).alloc (.loop (rec .ready none)) = W1 := ⟨_, rfl⟩
  have hL1 : W1.heap[w.heap.size + 1]? = some (.loop (rec .ready none)) := by
    rw [← hW1]; have := World.alloc_heap_new (w.alloc (.deferred (some []))) (.loop (rec .ready none)); rwa [World.size_alloc] at this
  have hK1 : W1.heap[w.heap.size]? = some (.deferred (some [])) := by
    rw [← hW1]; exact (Below.heap_alloc _ _ _ (by simp)).trans (World.alloc_heap_new w _)
  have hb1 : Below w.heap.size w W1 := by
    rw [← hW1]; exact (((Below.refl _ w).alloc (Nat.le_refl _) _).alloc (by simp) _)
  have hI1 : I [] W1 := hI _ _ _ h0 hb1
  have hs1 : W1.heap.size = w.heap.size + 2 := by rw [← hW1]; simp
  refine ⟨w.heap.size + 1, [{ target := .collected w.heap.size, args := #[] }], W1, { target := .fn (.func gf) lb, args := #[.func (.yield (w.heap.size + 1)) #[] #[]] }, W1, gf,
    #[.func (.yield (w.heap.size + 1)) #[] #[]] ++ lb, W1, ?_, ?_, ?_, ?_, ?_, ?_⟩
  · rw [← hW1, hrec]; exact run_enterLoop_outer _ _ _ _ _
  · simp only [resolve, hg]
    simp [go_sem]
  · intro f' hf'; trivial
  · simp [invoke, go_sem, eg]
  · intro h; cases h
  · refine (hseq (fun k => D k ∨ k = w.heap.size + 1) (w.heap.size + 1) stop
      (fun pre W => I pre W ∧ W.heap[w.heap.size + 1]? = some (.loop (rec .ready none)) ∧ W.heap[w.heap.size]? = some (.deferred (some [])))
      (fun W => S W ∧ W.heap[w.heap.size + 1]? = some (.loop (rec .done (some .ret))) ∧ W.heap[w.heap.size]? = some (.deferred (some [])))
      W1 (fun k hk => by rcases hk with hk | rfl; · have := hD k hk; omega
                         · omega)
      (fun k hk => ⟨fun e => by rcases e with e | rfl; · exact (hCB k hk).1 e
                                · have := (hCB _ hk).2; omega, by have := (hCB k hk).2; omega⟩) (hcap _ hb1)
      (fun s A B hs hb => ⟨hI s A B hs.1 (hb.mono (by omega)), (hb.block _ (by omega)).trans hs.2.1, (hb.block _ (by omega)).trans hs.2.2⟩)
      (fun A B hs hb => ⟨hS A B hs.1 (hb.mono (by omega)), (hb.block _ (by omega)).trans hs.2.1, (hb.block _ (by omega)).trans hs.2.2⟩)
      ?_ ⟨hI1, hL1, hK1⟩ (n - 1)).mono ?_
    · rintro pre x W m ⟨hi, hl, hk⟩ hpre
      have hlt : w.heap.size + 1 < W.heap.size := (Array.getElem?_eq_some_iff.1 hl).1
      have hy := run_yield (P := P) (args := #[enc x]) hl (by rw [hrec]; exact hps.symm)
      rw [hrec] at hy
      refine ⟨fn, _, assign, body, hy, roundIn_of_wpIn hfn (hassign _ x W m _ ⟨_, run_beginRound hl (by rw [hrec]), ?_⟩)⟩
      have hl2 : (W.putObj (w.heap.size + 1) (.loop { rec .ready none with state := .busy })).heap[w.heap.size + 1]? = some (.loop { rec .ready none with state := .busy }) := World.putObj_heap_same hlt
      have hk2 : (W.putObj (w.heap.size + 1) (.loop { rec .ready none with state := .busy })).heap[w.heap.size]? = some (.deferred (some [])) := (World.putObj_heap_other (by omega)).trans hk
      refine wpIn_mono (hbody _ pre x _ m (hI _ _ _ hi (below_putObj _ (by omega) _)) hpre) ?_
      rintro e a3 W3 hp
      cases e with
      | normal =>
        obtain ⟨hst, hk3, hi3⟩ := hp
        have hl3 := (hk3.block _ (by simpa using hlt) (fun e => by have := hD _ e; omega)).trans hl2
        have hkk := (hk3.block _ (by simp; omega) (fun e => by have := hD _ e; omega)).trans hk2
        have hr := run_endRound (P := P) none hl3
        refine ⟨_, _, hr, by rw [hst]; rfl, ⟨fun _ => ⟨hI _ _ _ hi3 (below_putObj _ (by omega) _), ?_, (World.putObj_heap_other (by omega)).trans hkk⟩, fun h => (by rw [hst] at h; cases h)⟩, ?_⟩
        · rw [World.putObj_heap_same (Array.getElem?_eq_some_iff.1 hl3).1]
          rw [hrec]; rfl
        · exact ((Kept.putObj W (D := fun k => D k ∨ k = w.heap.size + 1) (.inr rfl) _).trans (hk3.mono (fun k hk => .inl hk))).trans (Kept.putObj W3 (.inr rfl) _)
      | ret =>
        obtain ⟨hst, hk3, hi3⟩ := hp
        have hl3 := (hk3.block _ (by simpa using hlt) (fun e => by have := hD _ e; omega)).trans hl2
        have hkk := (hk3.block _ (by simp; omega) (fun e => by have := hD _ e; omega)).trans hk2
        have hr := run_endRound (P := P) (some .ret) hl3
        refine ⟨_, _, hr, by rw [hst]; rfl, ⟨fun h => (by rw [hst] at h; cases h), fun _ => ⟨hS _ _ hi3 (below_putObj _ (by omega) _), ?_, (World.putObj_heap_other (by omega)).trans hkk⟩⟩, ?_⟩
        · rw [World.putObj_heap_same (Array.getElem?_eq_some_iff.1 hl3).1]
          rw [hrec]; rfl
        · exact ((Kept.putObj W (D := fun k => D k ∨ k = w.heap.size + 1) (.inr rfl) _).trans (hk3.mono (fun k hk => .inl hk))).trans (Kept.putObj W3 (.inr rfl) _)
      | exit id => exact hp.elim
      | goto t => exact hp.elim
      | panic ch => exact hp.elim
      | outgrown => exact hp.elim
    · rintro e W2 ⟨⟨v, rfl⟩, ⟨hno, hyes⟩, _⟩
      cases hany : xs.any stop
      · obtain ⟨hi, hl, hk⟩ := hno hany
        exact ⟨none, _, by have := run_endLoop (P := P) hl (by rw [hrec]; simp); rw [hrec] at this; exact this, hdone _ _ (Nat.le_refl _) hany (hI _ _ _ hi (below_putObj _ (by omega) _)) ((World.putObj_heap_other (by omega)).trans hk)⟩
      · obtain ⟨hi, hl, hk⟩ := hyes hany
        exact ⟨some .ret, _, by have := run_endLoop (P := P) hl (by rw [hrec]; simp); rw [hrec] at this; exact this, hstop _ _ (Nat.le_refl _) hany (hS _ _ hi (below_putObj _ (by omega) _)) ((World.putObj_heap_other (by omega)).trans hk)⟩

end Go.Proofs.Ytlifkfemdknndaa

/-
  The program's iterators over addresses, told to a body that may leave: inRow.
-/
namespace Go.Proofs.Ytlifkfemdknndaa
open Go.RowKit Go.Shelf
set_option linter.unusedSimpArgs false
set_option linter.unusedVariables false
attribute [local go_sem] Oper.semAt_some

theorem any_at {α : Type} {stop : α → Bool} {pre : List α} {x : α} {xs : List α} (hp : pre ++ [x] <+: xs) (hs : stop x = true) : xs.any stop = true := by
  obtain ⟨t, rfl⟩ := hp
  simp [hs]

set_option maxRecDepth 100000 in
set_option maxHeartbeats 1000000 in
theorem inRow1_st (a : Int) (n ba bm : Nat) (ha : 0 ≤ a) (ha2 : a ≤ 63) (hn : 1 ≤ n) (hn4 : n ≤ 4) :
    ItSt Try.prog 101 #[.pointer (some ⟨bm, 0, none⟩), .pointer (some ⟨ba, 0, none⟩)] (Value.int .i64)
      (fun W => W.cell? ⟨ba, 0, none⟩ = some (.int .i64 a) ∧ W.cell? ⟨bm, 0, none⟩ = some (.int .i64 n)) (fun k => k = ba ∨ k = bm) (rowL a n) := by
  intro D l stop J S W hD hCB hcap hJ hS hY h0 n'
  obtain ⟨hca, hcm⟩ := hcap
  refine callsIn_of_wp Try.func101 rfl trivial ?_ rfl
  simp only [Try.ntmps101, List.size_toArray, List.length_cons, List.length_nil, Nat.reduceAdd, Nat.reduceSub, Array.replicate_succ, Array.replicate_zero, List.push_toArray, List.append_toArray, List.nil_append, List.cons_append]
  gi_wp2
  gi_loopw [6] (fun i wr => ∃ (k : Nat), k ≤ n ∧ i = .int .i64 k ∧ J (rowL a k) wr ∧ Kept D W wr ∧ Hid ((rowL a k).any stop = false))
    (fun i wr => n - (intOf i).toNat)
  case atStart => exact ⟨0, Nat.zero_le _, rfl, h0, Kept.refl _ _, rfl⟩
  case round =>
    obtain ⟨k, hk, rfl, hj, hkp, HA⟩ := hrel
    have hca' : wr.cell? ⟨ba, 0, none⟩ = some (.int .i64 a) := (hkp.cell (p := ⟨ba, 0, none⟩) (hCB ba (.inl rfl)).2 (hCB ba (.inl rfl)).1).trans hca
    by_cases hlt : k < n
    · have hkI : (k : Int) < (n : Int) := by omega
      have hsp := rowL_split (a := a) hlt
      obtain ⟨fn, tmps, assign, body, hy, hR⟩ := hY (rowL a k) (a + (k : Int)) wr (n' - 1) hj hsp
      cases hst : stop (a + (k : Int))
      · have HN : Hid ((rowL a (k + 1)).any stop = false) := Hid.intro (by rw [← rowL_succ, List.any_append, HA.out]; simp [hst])
        rw [hst] at hR
        gi_wp2
        refine ⟨fun h => (by cases h), hR.mono ?_⟩
        rintro e W3 ⟨rfl, hJ3, hk3⟩
        replace hJ3 := hJ3.1 trivial
        gi_wp2
        go_roundw
        case rel => exact ⟨k + 1, by omega, by go_num, by rw [← rowL_succ]; exact hJ3, hkp.trans hk3, HN⟩
        case measure => simp [intOf]; omega
      · have HN := Hid.intro (any_at hsp hst)
        rw [hst] at hR
        gi_wp2
        refine ⟨fun h => (by cases h), hR.mono ?_⟩
        rintro e W3 ⟨rfl, hJ3, hk3⟩
        gi_wp2
        refine bodyPost_ret (results_none rfl _ _ _) rfl ?_
        exact ⟨⟨_, rfl⟩, ⟨fun h => (by rw [HN.out] at h; cases h), fun _ => hJ3.2 trivial⟩, hkp.trans hk3⟩
    · have hk' : k = n := by omega
      subst hk'
      gi_wp2
      go_end0
      exact ⟨⟨_, rfl⟩, ⟨fun _ => hj, fun h => (by rw [HA.out] at h; cases h)⟩, hkp⟩

end Go.Proofs.Ytlifkfemdknndaa

/-
  roundAbout's iterator, told to a body that may leave.
-/
namespace Go.Proofs.Ytlifkfemdknndaa
open Go.RowKit Go.Shelf
set_option linter.unusedSimpArgs false
set_option linter.unusedVariables false
attribute [local go_sem] Oper.semAt_some

def rfS (l : Nat) (fst x : Int) (n : Nat) (b : Bool) : Nat → Value
  | 13 => .func (.yield l) #[] #[]
  | 14 => .int .i64 fst
  | 15 => .int .i64 x
  | 16 => .int .i64 fst
  | 17 => .int .i64 (x - fst)
  | 18 => .int .i64 n
  | 19 => .int .i64 ((x - fst) % (n : Int))
  | 20 => .int .i64 (fst + (x - fst) % (n : Int))
  | 21 => .bool (!b)
  | 22 => .bool b
  | _ => undef

set_option maxRecDepth 100000 in
set_option maxHeartbeats 400000 in
theorem round1_st (a : Int) (n ba bm : Nat) (ha : 0 ≤ a) (ha2 : a ≤ 63) (hn : 1 ≤ n) (hn4 : n ≤ 4) :
    ItSt Try.prog 99 #[.pointer (some ⟨ba, 0, none⟩), .pointer (some ⟨bm, 0, none⟩)] (Value.int .i64)
      (fun W => W.cell? ⟨ba, 0, none⟩ = some (.int .i64 a) ∧ W.cell? ⟨bm, 0, none⟩ = some (.int .i64 n)) (fun k => k = ba ∨ k = bm) ((rowL a n).map (rnd a n)) := by
  intro D l stop J S W hD hCB hcap hJ hS hY h0 n'
  obtain ⟨hca, hcm⟩ := hcap
  have hba := hCB ba (.inl rfl)
  have hbm := hCB bm (.inr rfl)
  have q1 : (0 : Int) ≤ a % (n : Int) := Int.emod_nonneg _ (by omega)
  have q2 : a % (n : Int) < (n : Int) := Int.emod_lt_of_pos _ (by omega)
  obtain ⟨fst, hfst⟩ : ∃ fst, a - a % (n : Int) = fst := ⟨_, rfl⟩
  have f1 : -4 ≤ fst := by omega
  have f2 : fst ≤ 63 := by omega
  have hca1 : (W.alloc (.cells #[.func (.yield l) #[] #[]] 135)).cell? ⟨ba, 0, none⟩ = some (.int .i64 a) := cell_al _ hca
  have hcm1 : (W.alloc (.cells #[.func (.yield l) #[] #[]] 135)).cell? ⟨bm, 0, none⟩ = some (.int .i64 n) := cell_al _ hcm
  refine callsIn_of_wp_marks Try.func99 rfl trivial ?_ rfl
  simp only [Try.ntmps99, List.size_toArray, List.length_cons, List.length_nil, Nat.reduceAdd, Nat.reduceSub, Array.replicate_succ, Array.replicate_zero, List.push_toArray, List.append_toArray, List.nil_append, List.cons_append]
  gi_wp2_with (first
    | (show Fence.wide.fn 100 ∧ _ ∧ _; refine ⟨trivial, fun h => (by cases h), ?_⟩; refine (callsIn_wide.2 (block_any a n _ ha ha2 hn hn4)).mono ?_; rintro e w' ⟨rfl, rfl⟩; rw [hfst])
    | (show Fence.wide.fn 91 ∧ _ ∧ _; refine ⟨trivial, fun h => (by cases h), ?_⟩; refine (callsIn_wide.2 (inRow_any a n _)).mono ?_; rintro e w' ⟨rfl, rfl⟩))
  obtain ⟨W0, hW0⟩ : ∃ W0, ((((W.alloc (.cells #[.func (.yield l) #[] #[]] 135)).alloc (.cells #[.int .i64 fst] 92)).alloc (.cells #[.int .i64 a] 92)).alloc (.cells #[.int .i64 n] 3)) = W0 := ⟨_, rfl⟩
  have hs0 : W0.heap.size = W.heap.size + 4 := by rw [← hW0]; simp
  have hb0 : Below W.heap.size W W0 := by
    rw [← hW0]
    exact ((((Below.refl _ W).alloc (by simp) _).alloc (by simp) _).alloc (by simp; omega) _).alloc (by simp; omega) _
  have c1 : W0.cell? ⟨W.heap.size, 0, none⟩ = some (.func (.yield l) #[] #[]) := by
    rw [← hW0]; exact cell_al _ (cell_al _ (cell_al _ (by simp)))
  have c2 : W0.cell? ⟨W.heap.size + 1, 0, none⟩ = some (.int .i64 fst) := by
    rw [← hW0]; exact cell_al _ (cell_al _ (by rw [World.cell?_alloc_at _ _ _ _ (by simp)]; rfl))
  have c3 : W0.cell? ⟨W.heap.size + 1 + 1, 0, none⟩ = some (.int .i64 a) := by
    rw [← hW0]; exact cell_al _ (by rw [World.cell?_alloc_at _ _ _ _ (by simp)]; rfl)
  have c4 : W0.cell? ⟨W.heap.size + 1 + 1 + 1, 0, none⟩ = some (.int .i64 n) := by
    rw [← hW0]; rw [World.cell?_alloc_at _ _ _ _ (by simp)]; rfl
  have c5 : W0.cell? ⟨bm, 0, none⟩ = some (.int .i64 n) := (hb0.cell (p := ⟨bm, 0, none⟩) hbm.2).trans hcm
  rw [hW0]
  clear hca1 hcm1 hW0
  refine wpIn_rangeS (gf := 101) (lb := #[.pointer (some ⟨W.heap.size + 1 + 1 + 1, 0, none⟩), .pointer (some ⟨W.heap.size + 1 + 1, 0, none⟩)]) rfl (enters_of Try.func101 (by kernel_rfl) rfl)
    (inRow1_st a n (W.heap.size + 1 + 1) (W.heap.size + 1 + 1 + 1) ha ha2 hn hn4)
    (fun W' hb => ⟨(hb.cell (p := ⟨_, 0, none⟩) (by show W.heap.size + 1 + 1 < _; omega)).trans c3, (hb.cell (p := ⟨_, 0, none⟩) (by show W.heap.size + 1 + 1 + 1 < _; omega)).trans c4⟩)
    D (fun k hk => by have := hD k hk; omega)
    (fun k hk => ⟨fun e => by have := hD k e; omega, by omega⟩) rfl (fun x => stop (rnd a n x))
    (fun pre W' => J (pre.map (rnd a n)) W' ∧ W'.cell? ⟨W.heap.size, 0, none⟩ = some (.func (.yield l) #[] #[]) ∧ W'.cell? ⟨W.heap.size + 1, 0, none⟩ = some (.int .i64 fst) ∧ W'.cell? ⟨bm, 0, none⟩ = some (.int .i64 n) ∧ Kept D W W' ∧ W.heap.size + 4 ≤ W'.heap.size)
    (fun W' => S W' ∧ Kept D W W')
    (fun s A B hs hb => ⟨hJ _ _ _ hs.1 (hb.mono (by omega)), (hb.cell (p := ⟨_, 0, none⟩) (by show W.heap.size < _; omega)).trans hs.2.1, (hb.cell (p := ⟨_, 0, none⟩) (by show W.heap.size + 1 < _; omega)).trans hs.2.2.1, (hb.cell (p := ⟨_, 0, none⟩) (by show bm < _; omega)).trans hs.2.2.2.1, hs.2.2.2.2.1.below hb (by omega), Nat.le_trans hs.2.2.2.2.2 hb.size⟩)
    (fun A B hs hb => ⟨hS _ _ hs.1 (hb.mono (by omega)), hs.2.below hb (by omega)⟩)
    ⟨hJ _ _ _ h0 hb0, c1, c2, c5, (Kept.refl D W).below hb0 (Nat.le_refl _), by omega⟩
    (fun x => { tmps := #[Value.func (Fn.yield l) #[] #[], Value.pointer (some { block := ba, off := 0 }),
          Value.pointer (some { block := bm, off := 0 }), Value.pointer (some { block := W.heap.size, off := 0 }),
          Value.pointer (some { block := W.heap.size + 1, off := 0 }), Value.int IntKind.i64 x, Value.int IntKind.i64 a,
          Value.int IntKind.i64 n, Value.int IntKind.i64 fst, Value.int IntKind.i64 a, Value.int IntKind.i64 n,
          Value.func (Fn.func 101) #[]
            #[Value.pointer (some { block := W.heap.size + 1 + 1 + 1, off := 0 }),
              Value.pointer (some { block := W.heap.size + 1 + 1, off := 0 })],
          Value.int IntKind.i64 x, undef, undef, undef, undef, undef, undef, undef, undef, undef, undef], defers := [] }) ?assign ?body ?done ?stop
  case assign =>
    intro l' x W' m K hK
    gi_wp2
    exact hK
  case body =>
    rintro l' pre x W' m ⟨hj, d1, d2, d3, d4, d5⟩ hpre
    obtain ⟨x1, x2⟩ := rowL_mem hpre
    have q3 : (0 : Int) ≤ (x - fst) % (n : Int) := Int.emod_nonneg _ (by omega)
    have q4 : (x - fst) % (n : Int) < (n : Int) := Int.emod_lt_of_pos _ (by omega)
    have q5 : (0 : Int) ≤ x - fst := by omega
    have erx : rnd a n x = fst + (x - fst) % (n : Int) := by unfold rnd; rw [hfst]
    have hpre' : pre.map (rnd a n) ++ [fst + (x - fst) % (n : Int)] <+: (rowL a n).map (rnd a n) := by
      have := List.IsPrefix.map (rnd a n) hpre
      rw [List.map_append] at this
      simpa [erx] using this
    obtain ⟨fn, tmps, assign, body, hy, hR⟩ := hY (pre.map (rnd a n)) (fst + (x - fst) % (n : Int)) W'.drew (m - 1) (hJ _ _ _ hj ((Below.refl _ _).drew)) hpre'
    have f3 : (0 : Int) ≤ fst := by have := fst_nonneg a n ha; omega
    have hws := wrap_small (x - fst) q5 (by omega)
    have q6 : fst + (x - fst) % (n : Int) ≤ 70 := by omega
    have q7 : 0 ≤ fst + (x - fst) % (n : Int) := by omega
    have hwr := wrap_small _ q7 q6
    have d1' : W'.drew.cell? ⟨W.heap.size, 0, none⟩ = some (.func (.yield l) #[] #[]) := d1
    have d2' : W'.drew.cell? ⟨W.heap.size + 1, 0, none⟩ = some (.int .i64 fst) := d2
    have d3' : W'.drew.cell? ⟨bm, 0, none⟩ = some (.int .i64 n) := d3
    gi_wp2
    have cells : ∀ w, (w = W'.drew ∨ (((stop (fst + (x - fst) % (n : Int)) = false → J (pre.map (rnd a n) ++ [fst + (x - fst) % (n : Int)]) w) ∧ (stop (fst + (x - fst) % (n : Int)) = true → S w)) ∧ Kept D W'.drew w)) → w.cell? ⟨W.heap.size, 0, none⟩ = some (.func (.yield l) #[] #[]) ∧ w.cell? ⟨W.heap.size + 1, 0, none⟩ = some (.int .i64 fst) ∧ w.cell? ⟨bm, 0, none⟩ = some (.int .i64 n) := by
      rintro w (rfl | ⟨_, hk3⟩)
      · exact ⟨d1', d2', d3'⟩
      · exact ⟨(hk3.cell (p := ⟨_, 0, none⟩) (by show W.heap.size < W'.heap.size; omega) (fun e => by have := hD _ e; simp at this)).trans d1, (hk3.cell (p := ⟨_, 0, none⟩) (by show W.heap.size + 1 < W'.heap.size; omega) (fun e => by have := hD _ e; simp at this; omega)).trans d2, (hk3.cell (p := ⟨bm, 0, none⟩) (by show bm < W'.heap.size; omega) hbm.1).trans d3⟩
    refine wpIn_region_det (by kernel_rfl) (rfS l fst x n (stop (fst + (x - fst) % (n : Int)))) 8 (fun w => ((stop (fst + (x - fst) % (n : Int)) = false → J (pre.map (rnd a n) ++ [fst + (x - fst) % (n : Int)]) w) ∧ (stop (fst + (x - fst) % (n : Int)) = true → S w)) ∧ Kept D W'.drew w) [13, 14, 15, 16, 17, 18, 19, 20, 21, 22] (by kernel_rfl) (by kernel_rfl) ?_ (by decide) ?_
    · intro i o ho
      rcases i with _ | _ | _ | _ | _ | _ | _ | _ | _ | _ | i
      · simp at ho; subst ho
        refine ⟨rfl, (by intro y h; cases h), 13, rfl, fun ρ hs => ⟨fun _ w hw => ?_, fun h => by omega⟩⟩
        obtain ⟨e1, e2, e3⟩ := cells w hw
        have h3 : ρ (.tmp 3) = .pointer (some ⟨W.heap.size, 0, none⟩) := hs.2.1 3 (by kernel_rfl)
        simp only [execOp, h3, rfS]
        go_simp
      · simp at ho; subst ho
        refine ⟨rfl, (by intro y h; cases h), 14, rfl, fun ρ hs => ⟨fun _ w hw => ?_, fun h => by omega⟩⟩
        obtain ⟨e1, e2, e3⟩ := cells w hw
        have h3 : ρ (.tmp 4) = .pointer (some ⟨W.heap.size + 1, 0, none⟩) := hs.2.1 4 (by kernel_rfl)
        simp only [execOp, h3, rfS]
        go_simp
      · simp at ho; subst ho
        refine ⟨rfl, (by intro y h; cases h), 15, rfl, fun ρ hs => ⟨fun _ w hw => ?_, fun h => by omega⟩⟩
        have h3 : ρ (.tmp 5) = .int .i64 x := hs.2.1 5 (by kernel_rfl)
        simp only [execOp, h3, rfS]
        go_simp
      · simp at ho; subst ho
        refine ⟨rfl, (by intro y h; cases h), 16, rfl, fun ρ hs => ⟨fun _ w hw => ?_, fun h => by omega⟩⟩
        obtain ⟨e1, e2, e3⟩ := cells w hw
        have h3 : ρ (.tmp 4) = .pointer (some ⟨W.heap.size + 1, 0, none⟩) := hs.2.1 4 (by kernel_rfl)
        simp only [execOp, h3, rfS]
        go_simp
      · simp at ho; subst ho
        refine ⟨rfl, (by intro y h; cases h), 17, rfl, fun ρ hs => ⟨fun _ w hw => ?_, fun h => by omega⟩⟩
        have h3 : ρ (.tmp 15) = .int .i64 x := hs.2.2 15 (by kernel_rfl)
        have h4 : ρ (.tmp 16) = .int .i64 fst := hs.2.2 16 (by kernel_rfl)
        simp only [execOp, h3, h4, rfS]
        go_simp
        try exact hws
      · simp at ho; subst ho
        refine ⟨rfl, (by intro y h; cases h), 18, rfl, fun ρ hs => ⟨fun _ w hw => ?_, fun h => by omega⟩⟩
        obtain ⟨e1, e2, e3⟩ := cells w hw
        have h3 : ρ (.tmp 2) = .pointer (some ⟨bm, 0, none⟩) := hs.2.1 2 (by kernel_rfl)
        simp only [execOp, h3, rfS]
        go_simp
      · simp at ho; subst ho
        refine ⟨rfl, (by intro y h; cases h), 19, rfl, fun ρ hs => ⟨fun _ w hw => ?_, fun h => by omega⟩⟩
        have h3 : ρ (.tmp 17) = .int .i64 (x - fst) := hs.2.2 17 (by kernel_rfl)
        have h4 : ρ (.tmp 18) = .int .i64 n := hs.2.2 18 (by kernel_rfl)
        simp only [execOp, h3, h4, rfS]
        go_simp
        rw [if_neg (by omega), Int.tmod_eq_emod_of_nonneg q5]
      · simp at ho; subst ho
        refine ⟨rfl, (by intro y h; cases h), 20, rfl, fun ρ hs => ⟨fun _ w hw => ?_, fun h => by omega⟩⟩
        have h3 : ρ (.tmp 14) = .int .i64 fst := hs.2.2 14 (by kernel_rfl)
        have h4 : ρ (.tmp 19) = .int .i64 ((x - fst) % (n : Int)) := hs.2.2 19 (by kernel_rfl)
        simp only [execOp, h3, h4, rfS]
        go_simp
      · simp at ho; subst ho
        refine ⟨rfl, (by intro y h; cases h), 21, rfl, fun ρ hs => ⟨fun h => by omega, fun _ => ⟨l, fn, tmps, assign, body, ?_, fun m' => ?_⟩⟩⟩
        · have h3 : ρ (.tmp 13) = .func (.yield l) #[] #[] := hs.2.2 13 (by kernel_rfl)
          have h4 : ρ (.tmp 20) = .int .i64 (fst + (x - fst) % (n : Int)) := hs.2.2 20 (by kernel_rfl)
          simp only [execOp, h3, h4]
          go_simp
        · exact round_any rfl (RoundIn.mono hR (fun e w' h => h))
      · simp at ho; subst ho
        refine ⟨rfl, (by intro y h; cases h), 22, rfl, fun ρ hs => ⟨fun _ w hw => ?_, fun h => by omega⟩⟩
        have h3 : ρ (.tmp 21) = .bool (!stop (fst + (x - fst) % (n : Int))) := hs.2.2 21 (by kernel_rfl)
        simp only [execOp, h3, rfS]
        go_simp
      · simp at ho
    · rintro W3 ⟨hJ3, hk3⟩
      obtain ⟨e1, e2, e3⟩ := cells W3 (.inr ⟨hJ3, hk3⟩)
      clear cells hy hR hY
      simp only [fill, rfS, Act.put, List.setIfInBounds_toArray, List.set_cons_zero, List.set_cons_succ]
      cases hst : stop (fst + (x - fst) % (n : Int))
      · have hj3 := hJ3.1 hst
        gi_wp2
        exact ⟨by rw [erx]; exact hst, (Kept.drew D W').trans hk3, by simpa [erx] using hj3, e1, e2, e3, d4.trans ((Kept.drew D W').trans hk3), Nat.le_trans d5 hk3.size⟩
      · have hj3 := hJ3.2 hst
        gi_wp2
        exact ⟨by rw [erx]; exact hst, (Kept.drew D W').trans hk3, hj3, d4.trans ((Kept.drew D W').trans hk3)⟩
  case done =>
    rintro B W' hB hany ⟨hj, d1, d2, d3, d4, d5⟩ hK
    have HN := Hid.intro (show ((rowL a n).map (rnd a n)).any stop = false by rw [List.any_map]; exact hany)
    gi_wp2
    refine ⟨by simp, .inl ⟨_, _, rfl, run_takeDeferred hK, ?_⟩⟩
    exact ⟨_, results_none rfl _ _ _, ⟨_, rfl⟩, ⟨fun _ => hJ _ _ _ hj (below_putObj _ (by omega) _), fun h => (by rw [HN.out] at h; cases h)⟩, d4.below (below_putObj _ (show W.heap.size ≤ B by omega) _) (Nat.le_refl _)⟩
  case stop =>
    rintro B W' hB hany ⟨hj, d4⟩ hK
    have HN := Hid.intro (show ((rowL a n).map (rnd a n)).any stop = true by rw [List.any_map]; exact hany)
    gi_wp2
    refine ⟨by simp, .inl ⟨_, _, rfl, run_takeDeferred hK, ?_⟩⟩
    exact ⟨_, results_none rfl _ _ _, ⟨_, rfl⟩, ⟨fun h => (by rw [HN.out] at h; cases h), fun _ => hS _ _ hj (below_putObj _ (by omega) _)⟩, d4.below (below_putObj _ (show W.heap.size ≤ B by omega) _) (Nat.le_refl _)⟩

end Go.Proofs.Ytlifkfemdknndaa

/-
  The range in which all of what is asked is: reqIsIn of the program.
-/
namespace Go.Proofs.Ytlifkfemdknndaa
open Go.RowKit Go.Shelf
set_option linter.unusedSimpArgs false
set_option linter.unusedVariables false
attribute [local go_sem] Oper.semAt_some

theorem burst_st (a : Int) (n b : Nat) (wrap : Bool) (ha : 0 ≤ a) (ha2 : a ≤ 63) (hn : 1 ≤ n) (hn4 : n ≤ 4) :
    ∃ gf lb, itV b wrap = .func (.func gf) #[] lb ∧
      (∀ args w, (callFunc gf args).run Try.prog w = .ok (.enter gf args) w) ∧
      ItSt Try.prog gf lb (Value.int .i64) (fun W => W.cell? ⟨b, 0, none⟩ = some (.int .i64 a) ∧ W.cell? ⟨b + 1, 0, none⟩ = some (.int .i64 n)) (fun k => k = b ∨ k = b + 1) (itL a n wrap) := by
  cases wrap
  · exact ⟨_, _, rfl, enters_of Try.func101 (by kernel_rfl) rfl, inRow1_st a n b (b + 1) ha ha2 hn hn4⟩
  · exact ⟨_, _, rfl, enters_of Try.func99 (by kernel_rfl) rfl, round1_st a n b (b + 1) ha ha2 hn hn4⟩

/-- all are in a range -/
def allInR (g : Rng) (l : List Int) : Bool := l.all (inRngB g)
theorem allInR_not (g : Rng) (l : List Int) : l.any (fun x => !inRngB g x) = !allInR g l := by
  simp [allInR, List.any_eq_not_all_not]

set_option maxRecDepth 100000 in
set_option maxHeartbeats 1000000 in
theorem isIn_req (r : Req) (pd pl : Option Addr) (cd cl : Nat) (g : Rng) (w : World) (hok : adrOkB r.addr r.many r.wrap = true) :
    Calls Try.prog 76 #[reqV r pd cd pl cl, .agg #[.int .i64 g.fr, .int .i64 g.tt, .int .i64 g.sl, .bool g.only]] w fun e w' => e = .returned (.bool (allInR g (burst r.addr r.many r.wrap))) ∧ Below w.heap.size w w' := by
  obtain ⟨h1, h2, h3, h4⟩ := (adrOk_iff r.addr r.many r.wrap).1 hok
  obtain ⟨n, hn⟩ := Int.eq_ofNat_of_zero_le (show 0 ≤ r.many by omega)
  have hn1 : 1 ≤ n := by omega
  have hn4 : n ≤ 4 := by omega
  rw [hn] at hok
  have HIB := Hid.intro (itL_burst hok)
  rw [hn]
  unfold reqV
  rw [hn]
  obtain ⟨a, ha⟩ : ∃ a, a = r.addr := ⟨_, rfl⟩
  obtain ⟨wrap, hwr⟩ : ∃ b, b = r.wrap := ⟨_, rfl⟩
  rw [← ha, ← hwr] at HIB ⊢
  rw [← ha] at h1 h2
  clear h3 h4 hok ha hwr
  have HC := Hid.intro (isIn_any g)
  refine (callsIn_wide (n := 9)).1 ?_
  refine callsIn_of_wp_marks Try.func76 rfl trivial ?_ rfl
  simp only [Try.ntmps76, List.size_toArray, List.length_cons, List.length_nil, Nat.reduceAdd, Nat.reduceSub, Array.replicate_succ, Array.replicate_zero, List.push_toArray, List.append_toArray, List.nil_append, List.cons_append]
  gi_wp2_with (show Fence.wide.fn 60 ∧ _; refine ⟨trivial, ?_⟩; refine (callsIn_wide.2 (burst_any a n wrap _)).mono ?_; rintro e w' ⟨rfl, hw⟩; subst hw)
  obtain ⟨W0, hW0⟩ : ∃ W0, (((((w.alloc (.cells #[.int .i64 r.id, .int .i64 r.kind, .int .i64 a, .int .i64 n, .bool wrap, .slice pd r.data.length cd, .slice pl r.lanes.length cl] 40)).alloc (.cells #[.int .i64 g.fr, .int .i64 g.tt, .int .i64 g.sl, .bool g.only] 70)).alloc (.cells #[.bool false] 4)).alloc (.cells #[.int .i64 a] 92)).alloc (.cells #[.int .i64 n] 3)) = W0 := ⟨_, rfl⟩
  have hs0 : W0.heap.size = w.heap.size + 5 := by rw [← hW0]; simp
  have hb0 : Below w.heap.size w W0 := by
    rw [← hW0]
    exact (((((Below.refl _ w).alloc (Nat.le_refl _) _).alloc (by simp) _).alloc (by simp; omega) _).alloc (by simp; omega) _).alloc (by simp; omega) _
  have hg0 : W0.heap[w.heap.size + 1]? = some (.cells #[.int .i64 g.fr, .int .i64 g.tt, .int .i64 g.sl, .bool g.only] 70 (0, 0)) := by
    rw [← hW0]
    exact (Below.heap_alloc _ _ _ (by simp <;> omega)).trans ((Below.heap_alloc _ _ _ (by simp <;> omega)).trans ((Below.heap_alloc _ _ _ (by simp)).trans (by have := World.alloc_heap_new (w.alloc (.cells #[.int .i64 r.id, .int .i64 r.kind, .int .i64 a, .int .i64 n, .bool wrap, .slice pd r.data.length cd, .slice pl r.lanes.length cl] 40)) (.cells #[.int .i64 g.fr, .int .i64 g.tt, .int .i64 g.sl, .bool g.only] 70); rwa [World.size_alloc] at this)))
  have hr0 : W0.heap[w.heap.size + 1 + 1]? = some (.cells #[.bool false] 4 (0, 0)) := by
    rw [← hW0]
    exact (Below.heap_alloc _ _ _ (by simp <;> omega)).trans ((Below.heap_alloc _ _ _ (by simp)).trans (by have := World.alloc_heap_new ((w.alloc (.cells #[.int .i64 r.id, .int .i64 r.kind, .int .i64 a, .int .i64 n, .bool wrap, .slice pd r.data.length cd, .slice pl r.lanes.length cl] 40)).alloc (.cells #[.int .i64 g.fr, .int .i64 g.tt, .int .i64 g.sl, .bool g.only] 70)) (.cells #[.bool false] 4); rwa [World.size_alloc, World.size_alloc] at this))
  have c2 : W0.cell? ⟨w.heap.size + 1 + 1 + 1, 0, none⟩ = some (.int .i64 a) := by
    rw [← hW0]; exact cell_al _ (by rw [World.cell?_alloc_at _ _ _ _ (by simp)]; rfl)
  have c3 : W0.cell? ⟨w.heap.size + 1 + 1 + 1 + 1, 0, none⟩ = some (.int .i64 n) := by
    rw [← hW0]; rw [World.cell?_alloc_at _ _ _ _ (by simp)]; rfl
  rw [hW0]
  clear hW0
  obtain ⟨gf, lb, hgf, heg, hit⟩ := burst_st a n (w.heap.size + 1 + 1 + 1) wrap h1 h2 hn1 hn4
  rw [hgf]
  refine wpIn_rangeS (gf := gf) (lb := lb) rfl heg hit
    (fun W' hb => ⟨(hb.cell (p := ⟨_, 0, none⟩) (by show w.heap.size + 1 + 1 + 1 < _; omega)).trans c2, (hb.cell (p := ⟨_, 0, none⟩) (by show w.heap.size + 1 + 1 + 1 + 1 < _; omega)).trans c3⟩)
    (fun k => k = w.heap.size + 1 + 1) (fun k hk => by omega)
    (fun k hk => ⟨fun e => by omega, by omega⟩) rfl (fun x => !inRngB g x)
    (fun pre W' => W'.heap[w.heap.size + 1]? = some (.cells #[.int .i64 g.fr, .int .i64 g.tt, .int .i64 g.sl, .bool g.only] 70 (0, 0)) ∧ W'.heap[w.heap.size + 1 + 1]? = some (.cells #[.bool false] 4 (0, 0)) ∧ Below w.heap.size w W')
    (fun W' => W'.heap[w.heap.size + 1 + 1]? = some (.cells #[.bool false] 4 (0, 0)) ∧ Below w.heap.size w W')
    (fun s A B hs hb => ⟨(hb.block _ (by omega)).trans hs.1, (hb.block _ (by omega)).trans hs.2.1, hs.2.2.trans (hb.mono (by omega))⟩)
    (fun A B hs hb => ⟨(hb.block _ (by omega)).trans hs.1, hs.2.trans (hb.mono (by omega))⟩)
    ⟨hg0, hr0, hb0⟩
    (fun x => { tmps := #[Value.agg
            #[Value.int IntKind.i64 r.id, Value.int IntKind.i64 r.kind, Value.int IntKind.i64 a,
              Value.int IntKind.i64 n, Value.bool wrap, Value.slice pd r.data.length cd,
              Value.slice pl r.lanes.length cl],
          Value.agg
            #[Value.int IntKind.i64 g.fr, Value.int IntKind.i64 g.tt, Value.int IntKind.i64 g.sl, Value.bool g.only],
          Value.pointer (some { block := w.heap.size, off := 0 }),
          Value.pointer (some { block := w.heap.size + 1, off := 0 }),
          Value.pointer (some { block := w.heap.size + 1 + 1, off := 0 }), Value.int IntKind.i64 x,
          Value.pointer (some { block := w.heap.size, off := 2 }), Value.int IntKind.i64 a,
          Value.pointer (some { block := w.heap.size, off := 3 }), Value.int IntKind.i64 n,
          Value.pointer (some { block := w.heap.size, off := 4 }), Value.bool wrap, Value.func (Fn.func gf) #[] lb,
          Value.int IntKind.i64 x, undef, undef, undef, undef], defers := [] }) ?assign ?body ?done ?stop
  case assign =>
    intro l' x W' m K hK
    gi_wp2
    exact hK
  case body =>
    rintro l' pre x W' m ⟨hg1, hr1, hbl⟩ hpre
    have g0 : W'.cell? ⟨w.heap.size + 1, 0, none⟩ = some (.int .i64 g.fr) := (heap_cell hg1 0).trans rfl
    have g1 : W'.cell? ⟨w.heap.size + 1, 1, none⟩ = some (.int .i64 g.tt) := (heap_cell hg1 1).trans rfl
    have g2 : W'.cell? ⟨w.heap.size + 1, 2, none⟩ = some (.int .i64 g.sl) := (heap_cell hg1 2).trans rfl
    have g3 : W'.cell? ⟨w.heap.size + 1, 3, none⟩ = some (.bool g.only) := (heap_cell hg1 3).trans rfl
    gi_wp2_with fail
    refine ⟨trivial, fun h => (by cases h), ?_⟩
    refine ((callsIn_wide.2 (HC.out x W')).inRound l').mono ?_
    rintro e W2 ⟨rfl, hb2⟩
    have hlt1 : w.heap.size + 1 < W'.heap.size := heap_lt hg1
    have hlt2 : w.heap.size + 1 + 1 < W'.heap.size := heap_lt hr1
    have hg2 := (hb2.block _ hlt1).trans hg1
    have hr2 := (hb2.block _ hlt2).trans hr1
    have hbl2 := hbl.trans (hb2.mono hbl.size)
    have hk2 : Kept (fun k => k = w.heap.size + 1 + 1) W' W2 := Kept.of_below hb2
    clear g0 g1 g2 g3 hb2
    cases hin : inRngB g x
    · have hc2 : W2.cell? ⟨w.heap.size + 1 + 1, 0, none⟩ = some (.bool false) := (heap_cell hr2 0).trans rfl
      have hf2 := heap_free hr2 0
      gi_wp2
      refine ⟨by simp [hin], hk2.trans (Kept.setCell (D := fun k => k = w.heap.size + 1 + 1) (p := ⟨w.heap.size + 1 + 1, 0, none⟩) _ rfl _), (heap_set hr2 0 _).trans rfl, hbl2.setCell (by show w.heap.size ≤ w.heap.size + 1 + 1; omega) _⟩
    · gi_wp2
      exact ⟨by simp [hin], hk2, hg2, hr2, hbl2⟩
  case done =>
    rintro B W' hB hany ⟨hg1, hr1, hbl⟩ hK
    have HN := Hid.intro (show allInR g (burst a n wrap) = true by rw [← HIB.out]; have := allInR_not g (itL a n wrap); rw [hany] at this; simpa using this)
    have hc2 : W'.cell? ⟨w.heap.size + 1 + 1, 0, none⟩ = some (.bool false) := (heap_cell hr1 0).trans rfl
    have hf2 := heap_free hr1 0
    have hK2 : (W'.setCell ⟨w.heap.size + 1 + 1, 0, none⟩ (.bool true)).heap[B]? = some (.deferred (some [])) := (heap_set_ne (by omega)).trans hK
    have hr2 := (heap_set hr1 0 (.bool true))
    have hr3 := (World.putObj_heap_other (o := .deferred none) (show w.heap.size + 1 + 1 ≠ B by omega)).trans hr2
    have hc3 : ((W'.setCell ⟨w.heap.size + 1 + 1, 0, none⟩ (.bool true)).putObj B (.deferred none)).cell? ⟨w.heap.size + 1 + 1, 0, none⟩ = some (.bool true) := (heap_cell hr3 0).trans rfl
    gi_wp2
    refine ⟨by simp, .inl ⟨_, _, rfl, run_takeDeferred hK2, ?_⟩⟩
    refine ⟨.bool true, ?_, by rw [HN.out], (hbl.setCell (p := ⟨w.heap.size + 1 + 1, 0, none⟩) (by show w.heap.size ≤ w.heap.size + 1 + 1; omega) _).trans (below_putObj _ (by omega) _)⟩
    simp [results, Try.results76, go_sem, hc3]
  case stop =>
    rintro B W' hB hany ⟨hr1, hbl⟩ hK
    have HN := Hid.intro (show allInR g (burst a n wrap) = false by rw [← HIB.out]; have := allInR_not g (itL a n wrap); rw [hany] at this; simpa using this)
    have hr3 := (World.putObj_heap_other (o := .deferred none) (show w.heap.size + 1 + 1 ≠ B by omega)).trans hr1
    have hc3 : (W'.putObj B (.deferred none)).cell? ⟨w.heap.size + 1 + 1, 0, none⟩ = some (.bool false) := (heap_cell hr3 0).trans rfl
    gi_wp2
    refine ⟨by simp, .inl ⟨_, _, rfl, run_takeDeferred hK, ?_⟩⟩
    refine ⟨.bool false, ?_, by rw [HN.out], hbl.trans (below_putObj _ (by omega) _)⟩
    simp [results, Try.results76, go_sem, hc3]

end Go.Proofs.Ytlifkfemdknndaa

/-
  Plain facts on ranges that are ok: parts of them; one of them twice; one of them left out; no address in two.
-/
namespace Go.Proofs.Ytlifkfemdknndaa
set_option linter.unusedSimpArgs false
set_option linter.unusedVariables false

theorem okAll_iff : ∀ (l ah : List Rng), okAll ah l = true ↔ (∀ r ∈ l, rngOkB r = true) ∧ (∀ r ∈ l, ∀ x ∈ ah, rngMeetB x r = false) ∧ l.Pairwise (fun a b => rngMeetB a b = false)
  | [], ah => by simp [okAll]
  | r :: l, ah => by
    have ih := okAll_iff l (ah ++ [r])
    simp only [okAll, Bool.and_eq_true, okAhead, List.all_eq_true, Bool.not_eq_true', ih, List.mem_cons, List.pairwise_cons, List.mem_append, List.not_mem_nil, or_false]
    constructor
    · rintro ⟨⟨h1, h2⟩, h3, h4, h5⟩
      refine ⟨?_, ?_, ?_, h5⟩
      · rintro x (rfl | hx)
        · exact h1
        · exact h3 x hx
      · rintro x (rfl | hx) y hy
        · exact h2 y hy
        · exact h4 x hx y (.inl hy)
      · intro x hx
        exact h4 x hx r (.inr rfl)
    · rintro ⟨h1, h2, h3, h4⟩
      refine ⟨⟨h1 r (.inl rfl), fun x hx => h2 r (.inl rfl) x hx⟩, fun x hx => h1 x (.inr hx), ?_, h4⟩
      rintro x hx y (hy | rfl)
      · exact h2 x (.inr hx) y hy
      · exact h3 x hx

theorem mapOk_iff (l : List Rng) : mapOkB l = true ↔ l.length ≤ 4 ∧ (∀ r ∈ l, rngOkB r = true) ∧ l.Pairwise (fun a b => rngMeetB a b = false) := by
  simp [mapOkB, okAll_iff]

theorem mapOk_sub {l m : List Rng} (h : mapOkB l = true) (hs : m.Sublist l) : mapOkB m = true := by
  rw [mapOk_iff] at h ⊢
  exact ⟨Nat.le_trans hs.length_le h.1, fun r hr => h.2.1 r (hs.subset hr), h.2.2.sublist hs⟩
theorem mapOk_take {l : List Rng} (h : mapOkB l = true) (k : Nat) : mapOkB (l.take k) = true := mapOk_sub h (List.take_sublist k l)
theorem meet_self {r : Rng} (h : rngOkB r = true) : rngMeetB r r = true := by
  simp [rngOkB] at h
  simp [rngMeetB]; omega
theorem mapOk_twice {l : List Rng} (h : mapOkB l = true) (k : Nat) (hk : k < l.length) : mapOkB (l ++ [l[k]]) = false := by
  rw [← Bool.not_eq_true, mapOk_iff]
  rintro ⟨_, _, hp⟩
  rw [mapOk_iff] at h
  rw [List.pairwise_append] at hp
  have h1 := hp.2.2 l[k] (List.getElem_mem hk) l[k] (by simp)
  rw [meet_self (h.2.1 _ (List.getElem_mem hk))] at h1
  cases h1

theorem in_meet {a b : Rng} {n : Int} (h1 : inRngB a n = true) (h2 : inRngB b n = true) : rngMeetB a b = true := by
  simp [inRngB] at h1 h2
  simp [rngMeetB]; omega

/-- how many of them have an address -/
def hits (n : Int) (l : List Rng) : Nat := (l.filter (fun r => inRngB r n)).length
theorem hits_le {l : List Rng} (h : l.Pairwise (fun a b => rngMeetB a b = false)) (n : Int) : hits n l ≤ 1 := by
  induction l with
  | nil => simp [hits]
  | cons r l ih =>
    rw [List.pairwise_cons] at h
    have ih := ih h.2
    by_cases hr : inRngB r n = true
    · have h0 : l.filter (fun r => inRngB r n) = [] := by
        rw [List.filter_eq_nil_iff]
        intro x hx hxn
        have := in_meet hr hxn
        rw [h.1 x hx] at this
        cases this
      simp [hits, hr, h0]
    · simp only [hits, List.filter_cons, hr] at ih ⊢
      exact ih
theorem hits_step {l : List Rng} {k : Nat} {n : Int} (h : k < l.length) : hits n (l.take (k + 1)) = hits n (l.take k) + (if inRngB l[k] n then 1 else 0) := by
  rw [take_at h]
  simp only [hits, List.filter_append, List.length_append]
  by_cases hr : inRngB l[k] n = true <;> simp [hr]
theorem hits_ok {l : List Rng} (h : mapOkB l = true) (n : Int) (k : Nat) : hits n (l.take k) ≤ 1 :=
  hits_le (((mapOk_iff l).1 h).2.2.sublist (List.take_sublist k l)) n

theorem find_app (l m : List Rng) (n : Int) : mapFindZ (l ++ m) n = if l.any (fun r => inRngB r n) then mapFindZ l n else mapFindZ m n := by
  induction l with
  | nil => simp
  | cons r l ih =>
    by_cases hr : inRngB r n = true
    · simp [mapFindZ, hr]
    · simp only [List.cons_append, mapFindZ, hr, ih, List.any_cons]
      simp
theorem find_none {l : List Rng} {n : Int} (h : ∀ r ∈ l, inRngB r n = false) : mapFindZ l n = 3 := by
  induction l with
  | nil => rfl
  | cons r l ih => simp [mapFindZ, h r (by simp), ih (fun x hx => h x (by simp [hx]))]

/-- one of them left out -/
def without (l : List Rng) (k : Nat) : List Rng := l.take k ++ l.drop (k + 1)
theorem without_sub (l : List Rng) (k : Nat) : (without l k).Sublist l := by
  unfold without
  have h : l = l.take k ++ l.drop k := (List.take_append_drop k l).symm
  have h2 : (l.take k ++ l.drop (k + 1)).Sublist (l.take k ++ l.drop k) := List.Sublist.append (List.Sublist.refl _) (by
    rw [← List.drop_drop]
    exact List.drop_sublist 1 _)
  rw [← h] at h2
  exact h2
theorem mapOk_without {l : List Rng} (h : mapOkB l = true) (k : Nat) : mapOkB (without l k) = true := mapOk_sub h (without_sub l k)
theorem split_at {l : List Rng} {k : Nat} (h : k < l.length) : l = l.take k ++ l[k] :: l.drop (k + 1) := by
  rw [← drop_at h, List.take_append_drop]
theorem find_without_in {l : List Rng} (h : mapOkB l = true) {k : Nat} (hk : k < l.length) {n : Int} (hn : inRngB l[k] n = true) : mapFindZ (without l k) n = 3 := by
  have hp := ((mapOk_iff l).1 h).2.2
  rw [split_at hk, List.pairwise_append, List.pairwise_cons] at hp
  refine find_none (fun r hr => ?_)
  rw [← Bool.not_eq_true]
  intro hrn
  rcases List.mem_append.1 hr with hr | hr
  · have := hp.2.2 r hr l[k] List.mem_cons_self
    rw [in_meet hrn hn] at this
    cases this
  · have := hp.2.1.1 r hr
    rw [in_meet hn hrn] at this
    cases this
theorem find_without_out {l : List Rng} {k : Nat} (hk : k < l.length) {n : Int} (hn : inRngB l[k] n = false) : mapFindZ (without l k) n = mapFindZ l n := by
  have e : mapFindZ l n = mapFindZ (l.take k ++ l[k] :: l.drop (k + 1)) n := by rw [← split_at hk]
  rw [e, without, find_app, find_app]
  simp [mapFindZ, hn]

end Go.Proofs.Ytlifkfemdknndaa

namespace Go.Proofs.Ytlifkfemdknndaa
open Go.RowKit
set_option linter.unusedSimpArgs false
set_option linter.unusedVariables false

/-- the first range that has them all -/
def rgFirst (ms : List Rng) (l : List Int) : Option Rng := ms.find? (fun g => allInR g l)
def zeroR : Rng := ⟨0, 0, 0, false⟩
def rgZ (ms : List Rng) (l : List Int) : Rng := (rgFirst ms l).getD zeroR
theorem rg_none {ms : List Rng} {l : List Int} {k : Nat} (hk : ms.length ≤ k) (h : rgFirst (ms.take k) l = none) : rgFirst ms l = none := by
  rwa [List.take_of_length_le hk] at h
theorem rg_step {ms : List Rng} {l : List Int} {k : Nat} (hk : k < ms.length) (h : rgFirst (ms.take k) l = none) (hn : allInR ms[k] l = false) : rgFirst (ms.take (k + 1)) l = none := by
  unfold rgFirst at *
  rw [List.take_succ_eq_append_getElem hk, List.find?_append, h]
  simp [hn]
theorem rg_hit {ms : List Rng} {l : List Int} {k : Nat} (hk : k < ms.length) (h : rgFirst (ms.take k) l = none) (hn : allInR ms[k] l = true) : rgFirst ms l = some ms[k] := by
  unfold rgFirst at *
  have e : ms = ms.take k ++ ms[k] :: ms.drop (k + 1) := by
    rw [List.getElem_cons_drop, List.take_append_drop]
  have hn' : (fun g => allInR g l) ms[k] = true := hn
  have e2 : List.find? (fun g => allInR g l) (ms.take k ++ ms[k] :: ms.drop (k + 1)) = some ms[k] := by
    rw [List.find?_append, h, List.find?_cons_of_pos (p := fun g => allInR g l) hn]
    rfl
  rw [← e] at e2
  exact e2

theorem findAt_only {ms : List Rng} (hd : ms.Pairwise (fun a b => rngMeetB a b = false)) {j : Nat} (hj : j < ms.length) {x : Int} (hx : inRngB ms[j] x = true) : findAt ms x 0 = (j : Int) := by
  rcases findAt_spec x ms 0 with ⟨h, h2⟩ | ⟨i, hi, h, _, hin⟩
  · exfalso
    have : ∀ (l : List Rng) (k : Nat), findAt l x k = -1 → ∀ r ∈ l, inRngB r x = false := by
      intro l
      induction l with
      | nil => intro k _ r hr; cases hr
      | cons a l ih =>
        intro k hk r hr
        simp only [findAt] at hk
        by_cases ha : inRngB a x = true
        · rw [if_pos ha] at hk; omega
        · rw [if_neg ha] at hk
          rcases List.mem_cons.1 hr with rfl | hr
          · simpa using ha
          · exact ih _ hk r hr
    have := this ms 0 h ms[j] (List.getElem_mem hj)
    rw [hx] at this; cases this
  · rw [h]
    simp only [Nat.zero_add]
    have hmeet : ∀ a b : Rng, inRngB a x = true → inRngB b x = true → rngMeetB a b = true := by
      intro a b ha hb
      simp [inRngB] at ha hb
      simp [rngMeetB]; omega
    rw [List.pairwise_iff_getElem] at hd
    rcases Nat.lt_trichotomy i j with hij | hij | hij
    · have := hd i j hi hj hij
      rw [hmeet _ _ hin hx] at this; cases this
    · rw [hij]
    · have := hd j i hj hi hij
      rw [hmeet _ _ hx hin] at this; cases this

theorem rg_slave {ms : List Rng} (hok : mapOkB ms = true) {l : List Int} (hl : l ≠ []) : slaveAt ms (wholeZ ms l) = (match rgFirst ms l with | some g => g.sl | none => 3) := by
  have hd := ((mapOk_iff ms).1 hok).2.2
  cases l with
  | nil => exact absurd rfl hl
  | cons a l =>
    cases hf : rgFirst ms (a :: l) with
    | some g =>
      unfold rgFirst at hf
      have hp := List.find?_some hf
      obtain ⟨j, hj, rfl⟩ := List.mem_iff_getElem.1 (List.mem_of_find?_eq_some hf)
      simp only [allInR, List.all_cons, Bool.and_eq_true] at hp
      have e0 := findAt_only hd hj hp.1
      have hall : (l.all fun x => findAt ms x 0 == findAt ms a 0) = true := by
        rw [List.all_eq_true]
        intro x hx
        have := (List.all_eq_true.1 hp.2) x hx
        rw [findAt_only hd hj this, e0]; simp
      have hw : wholeZ ms (a :: l) = (j : Int) := by
        show (if (l.all fun x => findAt ms x 0 == findAt ms a 0) = true then findAt ms a 0 else -1) = _
        rw [if_pos hall, e0]
      rw [hw]
      have h0 : ¬ ((j : Int) < 0) := by omega
      simp [slaveAt, h0, hj]
    | none =>
      rcases whole_range ms (a :: l) with hk | ⟨k, hk, hke⟩
      · rw [hk]; rfl
      · exfalso
        have hw := hke
        simp only [wholeZ] at hw
        by_cases hall : (l.all fun x => findAt ms x 0 == findAt ms a 0) = true
        · rw [if_pos hall] at hw
          have hin : ∀ x, findAt ms x 0 = (k : Int) → inRngB ms[k] x = true := by
            intro x hx
            rcases findAt_spec x ms 0 with ⟨h, _⟩ | ⟨i, hi, h, _, hin⟩
            · omega
            · have : i = k := by omega
              subst this; exact hin
          have : allInR ms[k] (a :: l) = true := by
            simp only [allInR, List.all_cons, Bool.and_eq_true]
            refine ⟨hin a hw, ?_⟩
            rw [List.all_eq_true]
            intro x hx
            have := (List.all_eq_true.1 hall) x hx
            exact hin x (by simp at this; omega)
          unfold rgFirst at hf
          have := List.find?_eq_none.1 hf ms[k] (List.getElem_mem hk)
          simp_all
        · rw [if_neg hall] at hw; omega

theorem results_row_tmp {P : Program} {fn : Func} {p u : Tmp} {ty : TypeId} (h : fn.results = #[.cell p ty, .tmp u]) (tmps : Array Value) (w : World) (g : Nat) (t : TypeId) (cs : Array Value) (fr : Nat × Nat) (d : TypeDesc)
    (hp : tmps.getD p undef = .pointer (some ⟨g, 0, none⟩)) (hg : w.heap[g]? = some (.cells cs t fr))
    (hu : P.underlying ty = some d) (hd : (match d with | .struct _ | .array _ _ => true | _ => false) = true) (hi : (P.info? ty).map (·.size) = some cs.size) :
    (results fn tmps).run P w = .ok (.tuple #[.agg cs, tmps.getD u undef]) w := by
  rw [results_cell_tmp h, hp]
  simp [asAddr, run_loadVar_row w g t ty cs fr d hg hu hd hi, Result.andThen]

theorem setQ4 {w : World} {b : Nat} {o0 o1 o2 o3 v0 v1 v2 v3 : Value} {t : TypeId} (h : w.heap[b]? = some (.cells #[o0, o1, o2, o3] t (0, 0))) :
    ((((w.setCell ⟨b, 0, none⟩ v0).setCell ⟨b, 1, none⟩ v1).setCell ⟨b, 2, none⟩ v2).setCell ⟨b, 3, none⟩ v3).heap[b]? = some (.cells #[v0, v1, v2, v3] t (0, 0)) :=
  heap_set (heap_set (heap_set (heap_set h 0 v0) 1 v1) 2 v2) 3 v3
theorem belowQ4 {M : Nat} {w w1 : World} {b : Nat} {v0 v1 v2 v3 : Value} (h : Below M w w1) (hb : M ≤ b) : Below M w ((((w1.setCell ⟨b, 0, none⟩ v0).setCell ⟨b, 1, none⟩ v1).setCell ⟨b, 2, none⟩ v2).setCell ⟨b, 3, none⟩ v3) :=
  (((h.setCell (p := ⟨b, 0, none⟩) hb v0).setCell (p := ⟨b, 1, none⟩) hb v1).setCell (p := ⟨b, 2, none⟩) hb v2).setCell (p := ⟨b, 3, none⟩) hb v3

set_option maxRecDepth 100000 in
set_option maxHeartbeats 1000000 in
theorem reqRange_any (a : Option Addr) (cap : Nat) (ms : List Rng) (r : Req) (pd pl : Option Addr) (cd cl : Nat) (w : World) (hm : RowOf w a ms) (hc : ms.length ≤ cap) (hc' : cap ≤ 9223372036854775807) (hok : adrOkB r.addr r.many r.wrap = true) :
    Calls Try.prog 48 #[.slice a ms.length cap, reqV r pd cd pl cl] w fun e w' => e = .returned (.tuple #[(rgZ ms (burst r.addr r.many r.wrap)).val, .bool (rgFirst ms (burst r.addr r.many r.wrap)).isSome]) ∧ Below w.heap.size w w' := by
  have HI := Hid.intro (fun g W => isIn_req r pd pl cd cl g W hok)
  obtain ⟨l, hl⟩ : ∃ l, l = burst r.addr r.many r.wrap := ⟨_, rfl⟩
  rw [← hl] at HI ⊢
  clear hl hok
  have HM := Hid.intro hm
  clear hm
  unfold reqV at HI ⊢
  go_enter Try.func48, Try.ntmps48
  go_wp2
  go_loopw [10] (fun i wr => ∃ k : Nat, k ≤ ms.length ∧ i = .int .i64 k ∧ Below w.heap.size w wr ∧ wr.heap[w.heap.size]? = some (.cells #[.int .i64 r.id, .int .i64 r.kind, .int .i64 r.addr, .int .i64 r.many, .bool r.wrap, .slice pd r.data.length cd, .slice pl r.lanes.length cl] 40 (0, 0)) ∧ wr.heap[w.heap.size + 1]? = some (.cells #[.int .i64 0, .int .i64 0, .int .i64 0, .bool false] 70 (0, 0)) ∧ Hid (rgFirst (ms.take k) l = none)) (fun i _ => ms.length - (intOf i).toNat)
  case atStart =>
    refine ⟨0, Nat.zero_le _, rfl, ((Below.refl _ w).alloc (Nat.le_refl _) _).alloc (by simp) _, ?_, ?_, rfl⟩
    · exact (Below.heap_alloc _ _ _ (by simp)).trans (heap_new _ _)
    · have := heap_new (w.alloc (.cells #[.int .i64 r.id, .int .i64 r.kind, .int .i64 r.addr, .int .i64 r.many, .bool r.wrap, .slice pd r.data.length cd, .slice pl r.lanes.length cl] 40)) (.cells #[.int .i64 0, .int .i64 0, .int .i64 0, .bool false] 70)
      rwa [World.size_alloc] at this
  case round =>
    obtain ⟨k, hk, rfl, hbl, hq, hz, HF⟩ := hrel
    have hqlt := heap_lt hq
    have hzlt := heap_lt hz
    by_cases hlt : k < ms.length
    · rcases HM.out with hx | ⟨b, off, rfl, hb, hcells⟩
      · subst hx; simp at hlt
      obtain ⟨g0, g1, g2, g3⟩ := hcells k hlt
      have c0 := (hbl.cell (p := ⟨b, off + k * 4, none⟩) hb).trans g0
      have c1 := (hbl.cell (p := ⟨b, off + k * 4 + 1, none⟩) hb).trans g1
      have c2 := (hbl.cell (p := ⟨b, off + k * 4 + 2, none⟩) hb).trans g2
      have c3 := (hbl.cell (p := ⟨b, off + k * 4 + 3, none⟩) hb).trans g3
      have q0 : wr.cell? ⟨w.heap.size, 0, none⟩ = _ := (heap_cell hq 0).trans rfl
      have q1 : wr.cell? ⟨w.heap.size, 1, none⟩ = _ := (heap_cell hq 1).trans rfl
      have q2 : wr.cell? ⟨w.heap.size, 2, none⟩ = _ := (heap_cell hq 2).trans rfl
      have q3 : wr.cell? ⟨w.heap.size, 3, none⟩ = _ := (heap_cell hq 3).trans rfl
      have q4 : wr.cell? ⟨w.heap.size, 4, none⟩ = _ := (heap_cell hq 4).trans rfl
      have q5 : wr.cell? ⟨w.heap.size, 5, none⟩ = _ := (heap_cell hq 5).trans rfl
      have q6 : wr.cell? ⟨w.heap.size, 6, none⟩ = _ := (heap_cell hq 6).trans rfl
      clear g0 g1 g2 g3 hcells
      have hs := hbl.size
      go_wp2_with fail
      refine (HI.out ms[k] _).mono ?_
      rintro e w1 ⟨rfl, hb1⟩
      have hs1 := hb1.size
      simp at hs1
      have hq1 := (hb1.block _ (by simp; omega)).trans ((Below.heap_alloc _ _ _ hqlt).trans hq)
      have hz1 := (hb1.block _ (by simp; omega)).trans ((Below.heap_alloc _ _ _ hzlt).trans hz)
      have hn1 := (hb1.block wr.heap.size (by simp)).trans (heap_new _ _)
      have hbl1 : Below w.heap.size w w1 := (hbl.alloc hs _).trans (hb1.mono (by simp; omega))
      clear hb1 c0 c1 c2 c3 q0 q1 q2 q3 q4 q5 q6
      cases hin : allInR ms[k] l
      · have HN := Hid.intro (rg_step hlt HF.out hin)
        go_wp2
        go_roundw
        case rel => exact ⟨k + 1, by omega, by go_num, hbl1, hq1, hz1, HN⟩
        case measure => simp [intOf]; omega
      · have HN := Hid.intro (rg_hit hlt HF.out hin)
        have n0 : w1.cell? ⟨wr.heap.size, 0, none⟩ = some (.int .i64 ms[k].fr) := (heap_cell hn1 0).trans rfl
        have n1 : w1.cell? ⟨wr.heap.size, 1, none⟩ = some (.int .i64 ms[k].tt) := (heap_cell hn1 1).trans rfl
        have n2 : w1.cell? ⟨wr.heap.size, 2, none⟩ = some (.int .i64 ms[k].sl) := (heap_cell hn1 2).trans rfl
        have n3 : w1.cell? ⟨wr.heap.size, 3, none⟩ = some (.bool ms[k].only) := (heap_cell hn1 3).trans rfl
        have z0 : w1.cell? ⟨w.heap.size + 1, 0, none⟩ = some (.int .i64 0) := (heap_cell hz1 0).trans rfl
        have z1 : w1.cell? ⟨w.heap.size + 1, 1, none⟩ = some (.int .i64 0) := (heap_cell hz1 1).trans rfl
        have z2 : w1.cell? ⟨w.heap.size + 1, 2, none⟩ = some (.int .i64 0) := (heap_cell hz1 2).trans rfl
        have z3 : w1.cell? ⟨w.heap.size + 1, 3, none⟩ = some (.bool false) := (heap_cell hz1 3).trans rfl
        have f0 := heap_free hz1 0
        have f1 := heap_free hz1 1
        have f2 := heap_free hz1 2
        have f3 := heap_free hz1 3
        go_wp2
        refine bodyPost_ret (results_row_tmp rfl _ _ (w.heap.size + 1) _ _ _ _ rfl (setQ4 hz1) Try.underlying70 rfl (by kernel_rfl)) rfl ⟨?_, belowQ4 hbl1 (by omega)⟩
        rw [rgZ, HN.out]
        rfl
    · have HN := Hid.intro (rg_none (show ms.length ≤ k by omega) HF.out)
      have z0 : wr.cell? ⟨w.heap.size + 1, 0, none⟩ = some (.int .i64 0) := (heap_cell hz 0).trans rfl
      have z1 : wr.cell? ⟨w.heap.size + 1, 1, none⟩ = some (.int .i64 0) := (heap_cell hz 1).trans rfl
      have z2 : wr.cell? ⟨w.heap.size + 1, 2, none⟩ = some (.int .i64 0) := (heap_cell hz 2).trans rfl
      have z3 : wr.cell? ⟨w.heap.size + 1, 3, none⟩ = some (.bool false) := (heap_cell hz 3).trans rfl
      have f0 := heap_free hz 0
      have f1 := heap_free hz 1
      have f2 := heap_free hz 2
      have f3 := heap_free hz 3
      go_wp2
      refine bodyPost_ret (results_row_tmp rfl _ _ (w.heap.size + 1) _ _ _ _ rfl (setQ4 hz) Try.underlying70 rfl (by kernel_rfl)) rfl ⟨?_, belowQ4 hbl (by omega)⟩
      rw [rgZ, HN.out]
      rfl

theorem req_adr {r : Req} (h : reqOkB r = true) : adrOkB r.addr r.many r.wrap = true := by
  simp [reqOkB, reqHeadB] at h
  exact h.1.2.2
theorem burst_ne {a m : Int} {wrap : Bool} (h : adrOkB a m wrap = true) : burst a m wrap ≠ [] := by
  obtain ⟨_, _, h3, _⟩ := (adrOk_iff a m wrap).1 h
  rw [burst_ok h]
  intro e
  have := congrArg List.length e
  simp at this
  omega
theorem slave_rg {ms : List Rng} {r : Req} (h1 : mapOkB ms = true) (h2 : reqOkB r = true) : reqSlaveZ ms r = (match rgFirst ms (burst r.addr r.many r.wrap) with | some g => g.sl | none => 3) := by
  rw [← rg_slave h1 (burst_ne (req_adr h2))]
  simp [reqSlaveZ, h1, h2]

set_option maxRecDepth 100000 in
set_option maxHeartbeats 1000000 in
theorem impl_ReqSlave : ReqSlaveC := by
  intro a cap ms r pd pl cd cl w hm hc hc' h
  have hbl : ∀ o, Below w.heap.size w (w.alloc o) := fun o => (Below.refl _ w).alloc (Nat.le_refl _) o
  have HQ := Hid.intro (fun W h => impl_ReqOk r pd pl cd cl W h)
  have HG := Hid.intro (fun W h1 h2 => reqRange_any a cap ms r pd pl cd cl W h1 hc hc' h2)
  have HM := Hid.intro hm
  have HA := Hid.intro h
  clear hm h
  unfold reqV at HG HQ ⊢
  go_enter Try.func18, Try.ntmps18
  go_wp2_with fail
  refine (impl_MapOk a cap ms _ (HM.out.below (hbl _)) hc hc').mono ?_
  rintro e w1 ⟨rfl, hb1⟩
  obtain ⟨c0, c1, c2, c3, c4, c5, c6⟩ := box7 hb1
  have hs1 := hb1.size
  simp at hs1
  have hb1' := (hbl _).trans (hb1.mono (hbl _).size)
  clear hb1
  cases hok : mapOkB ms
  · have HN := Hid.intro (slave_no (ms := ms) (r := r) (.inl hok))
    go_wp2
    go_ret
    exact ⟨by rw [HN.out]; rfl, hb1'⟩
  go_wp2_with fail
  refine (HQ.out w1 (HA.out.below hb1')).mono ?_
  rintro e w2 ⟨rfl, hb2⟩
  have hs2 := hb2.size
  have hlt : w.heap.size < w1.heap.size := by omega
  have d0 := (hb2.cell (p := ⟨w.heap.size, 0, none⟩) hlt).trans c0
  have d1 := (hb2.cell (p := ⟨w.heap.size, 1, none⟩) hlt).trans c1
  have d2 := (hb2.cell (p := ⟨w.heap.size, 2, none⟩) hlt).trans c2
  have d3 := (hb2.cell (p := ⟨w.heap.size, 3, none⟩) hlt).trans c3
  have d4 := (hb2.cell (p := ⟨w.heap.size, 4, none⟩) hlt).trans c4
  have d5 := (hb2.cell (p := ⟨w.heap.size, 5, none⟩) hlt).trans c5
  have d6 := (hb2.cell (p := ⟨w.heap.size, 6, none⟩) hlt).trans c6
  have hb2' := hb1'.trans (hb2.mono hb1'.size)
  clear hb2 c0 c1 c2 c3 c4 c5 c6 hb1' HQ
  cases hrq : reqOkB r
  · have HN := Hid.intro (slave_no (ms := ms) (r := r) (.inr hrq))
    go_wp2
    go_ret
    exact ⟨by rw [HN.out]; rfl, hb2'⟩
  have HN := Hid.intro (slave_rg hok hrq)
  go_wp2_with fail
  refine (HG.out w2 (HM.out.below hb2') (req_adr hrq)).mono ?_
  rintro e w3 ⟨rfl, hb3⟩
  have hb3' := hb2'.trans (hb3.mono hb2'.size)
  clear hb3 d0 d1 d2 d3 d4 d5 d6 HG
  unfold Rng.val
  cases hf : rgFirst ms (burst r.addr r.many r.wrap) with
  | none =>
    rw [hf] at HN
    simp only [Option.isSome_none]
    go_wp2
    go_ret
    exact ⟨by rw [HN.out]; rfl, hb3'.alloc hb3'.size _⟩
  | some g =>
    have HZ := Hid.intro (show rgZ ms (burst r.addr r.many r.wrap) = g by rw [rgZ, hf]; rfl)
    rw [hf] at HN
    rw [HZ.out]
    simp only [Option.isSome_some]
    go_wp2
    go_ret
    exact ⟨by rw [HN.out]; rfl, hb3'.alloc hb3'.size _⟩

end Go.Proofs.Ytlifkfemdknndaa
