/-
  ReqSlave of the program: the one range that answers a burst.
-/
import Derived.Test.YtpjfkimgienkbaaProg
import Derived.Test.YtpjfkimgienkbaaReq
import Derived.Test.YtpjfkimgienkbaaAllAre
import Derived.Handy
import Derived.Test.YtpjfkimgienkbaaReqS
import Derived.Test.YtpjfkimgienkbaaPInt
import Derived.Test.YtpjfkimgienkbaaBurstM
import Derived.Test.YtpjfkimgienkbaaIRow
import Derived.Test.YtpjfkimgienkbaaPure
import Derived.Test.YtpjfkimgienkbaaMapCM
import Derived.Laws.ResultCell
import Derived.Laws.Rows
/-
  What is asked, of the program: names, kinds, words.
-/
namespace Go.Proofs.Ytpjfkimgienkbaa
open Go.RowKit
set_option linter.unusedSimpArgs false
set_option linter.unusedVariables false

theorem nameOk_any (n : Int) (w : World) :
    Calls Try.prog 79 #[.int .i64 n] w fun e w' => e = .returned (.bool (inB n 0 1)) ∧ w' = w := by
  by_cases h1 : 0 ≤ n
  · by_cases h2 : n < 2
    · go_enter Try.func79, Try.ntmps79
      go_wp2
      go_ret
      exact ⟨by simp [inB]; omega, rfl⟩
    · have hd : decide (n < 2) = false := by simpa using h2
      go_enter Try.func79, Try.ntmps79
      go_wp2
      go_ret
      exact ⟨by simp [inB]; omega, rfl⟩
  · have hd : decide (0 ≤ n) = false := by simpa using h1
    go_enter Try.func79, Try.ntmps79
    go_wp2
    go_ret
    exact ⟨by simp [inB]; omega, rfl⟩

theorem noneB_eq (r : Req) : reqNoneB r = (((r.data.length : Int) == 0) && ((r.lanes.length : Int) == 0)) := by
  have e3 : ∀ n : Nat, decide (n = 0) = ((n : Int) == 0) := fun n => by rw [Bool.eq_iff_iff]; simp
  unfold reqNoneB
  rw [e3, e3]

theorem wordsB_eq (r : Req) : reqWordsB r = (((r.data.length : Int) == r.many) && (((r.lanes.length : Int) == r.many) && (allIn r.data 0 65535 && allIn r.lanes 0 3))) := by
  have e2 : ∀ a b : Int, decide (a = b) = (a == b) := fun a b => by rw [Bool.eq_iff_iff]; simp
  unfold reqWordsB
  rw [e2, e2]

theorem noWords_any (r : Req) (pd pl : Option Addr) (cd cl : Nat) (w : World) :
    Calls Try.prog 110 #[reqV r pd cd pl cl] w fun e w' => e = .returned (.bool (reqNoneB r)) ∧ Below w.heap.size w w' := by
  have hbl : ∀ o, Below w.heap.size w (w.alloc o) := fun o => (Below.refl _ w).alloc (Nat.le_refl _) o
  have HE := Hid.intro (noneB_eq r)
  unfold reqV
  cases d0 : ((r.data.length : Int) == 0)
  · go_enter Try.func110, Try.ntmps110
    go_wp2
    go_ret
    exact ⟨by rw [HE.out, d0]; rfl, hbl _⟩
  · go_enter Try.func110, Try.ntmps110
    go_wp2
    go_ret
    exact ⟨by rw [HE.out, d0]; rfl, hbl _⟩

set_option maxRecDepth 100000 in
set_option maxHeartbeats 1000000 in
theorem itsWords_any (r : Req) (pd pl : Option Addr) (cd cl : Nat) (w : World) (h : ReqAt w r pd cd pl cl) :
    Calls Try.prog 116 #[reqV r pd cd pl cl] w fun e w' => e = .returned (.bool (reqWordsB r)) ∧ Below w.heap.size w w' := by
  have hbl : ∀ o, Below w.heap.size w (w.alloc o) := fun o => (Below.refl _ w).alloc (Nat.le_refl _) o
  have HE := Hid.intro (wordsB_eq r)
  have H1 := Hid.intro (fun o => allAre_w pd cd r.data (w.alloc o) (h.below (hbl o)).data h.cd1 h.cd2)
  have H2 := Hid.intro (fun o => allAre_l pl cl r.lanes (w.alloc o) (h.below (hbl o)).lanes h.cl1 h.cl2)
  clear h
  unfold reqV
  cases d0 : ((r.data.length : Int) == r.many)
  · go_enter Try.func116, Try.ntmps116
    go_wp2
    go_ret
    exact ⟨by rw [HE.out, d0]; rfl, hbl _⟩
  cases d1 : ((r.lanes.length : Int) == r.many)
  · go_enter Try.func116, Try.ntmps116
    go_wp2
    go_ret
    exact ⟨by rw [HE.out, d0, d1]; rfl, hbl _⟩
  cases d2 : allIn r.data 0 65535
  · go_enter Try.func116, Try.ntmps116
    go_wp2_with fail
    refine (H1.out _).mono ?_
    rintro e w' ⟨rfl, rfl⟩
    rw [d2]
    go_wp2
    go_ret
    exact ⟨by rw [HE.out, d0, d1, d2]; rfl, hbl _⟩
  · go_enter Try.func116, Try.ntmps116
    go_wp2_with fail
    refine (H1.out _).mono ?_
    rintro e w' ⟨rfl, rfl⟩
    rw [d2]
    go_wp2_with fail
    refine (H2.out _).mono ?_
    rintro e w' ⟨rfl, rfl⟩
    go_wp2
    go_ret
    exact ⟨by rw [HE.out, d0, d1, d2]; rfl, hbl _⟩

end Go.Proofs.Ytpjfkimgienkbaa

/-
  What ReqOk, RspOk and ReqSlave of the program are asked to answer.
-/
namespace Go.Proofs.Ytpjfkimgienkbaa
open Go.RowKit

/-- ReqOk of the program answers so -/
def ReqOkC : Prop := ∀ (r : Req) (pd pl : Option Addr) (cd cl : Nat) (w : World), ReqAt w r pd cd pl cl → Calls Try.prog 64 #[reqV r pd cd pl cl] w fun e w' => e = .returned (.bool (reqOkB r)) ∧ Below w.heap.size w w'

end Go.Proofs.Ytpjfkimgienkbaa

/-
  ReqOk of the program: each kind shows itself to a visitor.
-/
namespace Go.Proofs.Ytpjfkimgienkbaa
open Go.RowKit
set_option linter.unusedSimpArgs false
set_option linter.unusedVariables false

theorem heap_new (w : World) (o : Obj) : (w.alloc o).heap[w.heap.size]? = some o := by
  show (w.heap.push o)[w.heap.size]? = some o
  simp

set_option maxRecDepth 100000 in
set_option maxHeartbeats 1000000 in
theorem needs_read (r : Req) (pd pl : Option Addr) (cd cl : Nat) (bn : Nat) (b : Bool) (w : World) (hn : w.heap[bn]? = some (.cells #[.bool b] 126 (0, 0))) (h : ReqAt w r pd cd pl cl) :
    Calls Try.prog 113 #[.pointer (some ⟨bn, 0, none⟩), reqV r pd cd pl cl] w fun e w' => (∃ v, e = .returned v) ∧ w'.cell? ⟨bn, 0, none⟩ = some (.bool (reqNoneB r)) ∧ Below bn w w' := by
  have hbl : ∀ o, Below w.heap.size w (w.alloc o) := fun o => (Below.refl _ w).alloc (Nat.le_refl _) o
  have hlt : bn < w.heap.size := (Array.getElem?_eq_some_iff.1 hn).1
  have HC := Hid.intro (fun o => noWords_any r pd pl cd cl (w.alloc o))
  clear h
  unfold reqV
  go_enter Try.func113, Try.ntmps113
  go_wp2_with fail
  refine (HC.out _).mono ?_
  rintro e w1 ⟨rfl, hb1⟩
  have hn1 : w1.heap[bn]? = some (.cells #[.bool b] 126 (0, 0)) := (hb1.block bn (by simp; omega)).trans ((Below.heap_alloc _ _ _ hlt).trans hn)
  have hc1 : w1.cell? ⟨bn, 0, none⟩ = some (.bool b) := (heap_cell hn1 0).trans rfl
  have hf1 := heap_free hn1 0
  have hbb : Below bn w w1 := ((hbl _).mono (by omega)).trans (hb1.mono (by simp; omega))
  clear hb1 hn hn1
  go_wp2
  go_returns
  refine ⟨⟨_, rfl⟩, ?_, hbb.setCell (p := ⟨bn, 0, none⟩) (Nat.le_refl _) _⟩
  exact World.cell?_setCell_same _ _ _ hc1

set_option maxRecDepth 100000 in
set_option maxHeartbeats 1000000 in
theorem show_read (r : Req) (pd pl : Option Addr) (cd cl : Nat) (bn : Nat) (b : Bool) (w : World) (hn : w.heap[bn]? = some (.cells #[.bool b] 126 (0, 0))) (h : ReqAt w r pd cd pl cl) :
    Calls Try.prog 107 #[reqV r pd cd pl cl, .iface 128 (.pointer (some ⟨bn, 0, none⟩))] w fun e w' => (∃ v, e = .returned v) ∧ w'.cell? ⟨bn, 0, none⟩ = some (.bool (reqNoneB r)) ∧ Below bn w w' := by
  have hbl : ∀ o, Below w.heap.size w (w.alloc o) := fun o => (Below.refl _ w).alloc (Nat.le_refl _) o
  have hlt : bn < w.heap.size := (Array.getElem?_eq_some_iff.1 hn).1
  have HC := Hid.intro (fun o => needs_read r pd pl cd cl bn b (w.alloc o) ((Below.heap_alloc _ _ _ hlt).trans hn) (h.below (hbl o)))
  clear h hn
  unfold reqV
  go_enter Try.func107, Try.ntmps107
  go_wp2_with fail
  refine (HC.out _).mono ?_
  rintro e w1 ⟨⟨v, rfl⟩, hc1, hb1⟩
  have hbb : Below bn w w1 := ((hbl _).mono (by omega)).trans hb1
  clear hb1
  go_wp2
  go_returns
  exact ⟨⟨_, rfl⟩, hc1, hbb⟩

theorem kind_read (r : Req) (pd pl : Option Addr) (cd cl : Nat) (w : World) (h : r.kind = 1) :
    Calls Try.prog 78 #[reqV r pd cd pl cl] w fun e w' => e = .returned (.tuple #[.iface 137 (reqV r pd cd pl cl), .bool true]) ∧ Below w.heap.size w w' := by
  have hbl : ∀ o, Below w.heap.size w (w.alloc o) := fun o => (Below.refl _ w).alloc (Nat.le_refl _) o
  unfold reqV
  rw [h]
  go_enter Try.func78, Try.ntmps78
  go_wp2
  go_returns
  exact ⟨rfl, hbl _⟩

theorem ok_read_eq (r : Req) (h : r.kind = 1) : reqOkB r = (inB r.id 0 1 && (adrOkB r.addr r.many r.wrap && (reqNoneB r))) := by
  have e2 : ∀ a b : Int, decide (a = b) = (a == b) := fun a b => by rw [Bool.eq_iff_iff]; simp
  unfold reqOkB reqHeadB reqOneB writesB
  rw [h]
  simp [inB, Bool.and_assoc]

set_option maxRecDepth 100000 in
set_option maxHeartbeats 1000000 in
theorem ok_read (r : Req) (pd pl : Option Addr) (cd cl : Nat) (w : World) (h : ReqAt w r pd cd pl cl) (hk : r.kind = 1) :
    Calls Try.prog 64 #[reqV r pd cd pl cl] w fun e w' => e = .returned (.bool (reqOkB r)) ∧ Below w.heap.size w w' := by
  have hbl : ∀ o, Below w.heap.size w (w.alloc o) := fun o => (Below.refl _ w).alloc (Nat.le_refl _) o
  have HE := Hid.intro (ok_read_eq r hk)
  have HK := Hid.intro (fun W => kind_read r pd pl cd cl W hk)
  have HS := Hid.intro (fun bn b W h1 h2 => show_read r pd pl cd cl bn b W h1 h2)
  have HA := Hid.intro h
  clear h hk
  obtain ⟨rv, hrv⟩ : ∃ rv, rv = reqV r pd cd pl cl := ⟨_, rfl⟩
  have HR := Hid.intro hrv
  unfold reqV at hrv
  clear hrv
  unfold reqV
  go_enter Try.func64, Try.ntmps64
  go_wp2_with fail
  refine (HK.out _).mono ?_
  rintro e w1 ⟨rfl, hb1⟩
  obtain ⟨c0, c1, c2, c3, c4, c5, c6⟩ := box7 hb1
  have hs1 := hb1.size
  simp at hs1
  have hb1' := (hbl _).trans (hb1.mono (hbl _).size)
  have hA1 := Hid.intro (HA.out.below hb1')
  clear hb1 HA HK
  cases h1 : inB r.id 0 1
  · go_wp2_with (go_at_call 79; refine (nameOk_any _ _).mono ?_; rintro e w' ⟨rfl, hw⟩; replace hw := hw.symm; subst hw)
    go_ret
    exact ⟨by rw [HE.out, h1]; rfl, hb1'⟩
  cases h2 : adrOkB r.addr r.many r.wrap
  · go_wp2_with (first | (go_at_call 79; refine (nameOk_any _ _).mono ?_; rintro e w' ⟨rfl, hw⟩; replace hw := hw.symm; subst hw) | (go_at_call 26; refine (impl_AdrOk _ _ _ _).mono ?_; rintro e w' ⟨rfl, hw⟩; replace hw := hw.symm; subst hw))
    go_ret
    exact ⟨by rw [HE.out, h1, h2]; rfl, hb1'⟩
  go_wp2_with (first | (go_at_call 79; refine (nameOk_any _ _).mono ?_; rintro e w' ⟨rfl, hw⟩; replace hw := hw.symm; subst hw) | (go_at_call 26; refine (impl_AdrOk _ _ _ _).mono ?_; rintro e w' ⟨rfl, hw⟩; replace hw := hw.symm; subst hw))
  refine (HS.out w1.heap.size false _ (heap_new _ _) (hA1.out.below ((Below.refl _ w1).alloc (Nat.le_refl _) _))).mono ?_
  rintro e w2 ⟨⟨v, rfl⟩, hc2, hb2⟩
  have hb2' := hb1'.trans ((((Below.refl _ w1).alloc (Nat.le_refl _) _).trans hb2).mono hb1'.size)
  clear hb2 hA1 c0 c1 c2 c3 c4 c5 c6 HS
  go_wp2
  go_ret
  exact ⟨by rw [HE.out, h1, h2]; rfl, hb2'⟩

set_option maxRecDepth 100000 in
set_option maxHeartbeats 1000000 in
theorem needs_write (r : Req) (pd pl : Option Addr) (cd cl : Nat) (bn : Nat) (b : Bool) (w : World) (hn : w.heap[bn]? = some (.cells #[.bool b] 126 (0, 0))) (h : ReqAt w r pd cd pl cl) :
    Calls Try.prog 115 #[.pointer (some ⟨bn, 0, none⟩), reqV r pd cd pl cl] w fun e w' => (∃ v, e = .returned v) ∧ w'.cell? ⟨bn, 0, none⟩ = some (.bool (reqWordsB r)) ∧ Below bn w w' := by
  have hbl : ∀ o, Below w.heap.size w (w.alloc o) := fun o => (Below.refl _ w).alloc (Nat.le_refl _) o
  have hlt : bn < w.heap.size := (Array.getElem?_eq_some_iff.1 hn).1
  have HC := Hid.intro (fun o => itsWords_any r pd pl cd cl (w.alloc o) (h.below (hbl o)))
  clear h
  unfold reqV
  go_enter Try.func115, Try.ntmps115
  go_wp2_with fail
  refine (HC.out _).mono ?_
  rintro e w1 ⟨rfl, hb1⟩
  have hn1 : w1.heap[bn]? = some (.cells #[.bool b] 126 (0, 0)) := (hb1.block bn (by simp; omega)).trans ((Below.heap_alloc _ _ _ hlt).trans hn)
  have hc1 : w1.cell? ⟨bn, 0, none⟩ = some (.bool b) := (heap_cell hn1 0).trans rfl
  have hf1 := heap_free hn1 0
  have hbb : Below bn w w1 := ((hbl _).mono (by omega)).trans (hb1.mono (by simp; omega))
  clear hb1 hn hn1
  go_wp2
  go_returns
  refine ⟨⟨_, rfl⟩, ?_, hbb.setCell (p := ⟨bn, 0, none⟩) (Nat.le_refl _) _⟩
  exact World.cell?_setCell_same _ _ _ hc1

set_option maxRecDepth 100000 in
set_option maxHeartbeats 1000000 in
theorem show_write (r : Req) (pd pl : Option Addr) (cd cl : Nat) (bn : Nat) (b : Bool) (w : World) (hn : w.heap[bn]? = some (.cells #[.bool b] 126 (0, 0))) (h : ReqAt w r pd cd pl cl) :
    Calls Try.prog 108 #[reqV r pd cd pl cl, .iface 128 (.pointer (some ⟨bn, 0, none⟩))] w fun e w' => (∃ v, e = .returned v) ∧ w'.cell? ⟨bn, 0, none⟩ = some (.bool (reqWordsB r)) ∧ Below bn w w' := by
  have hbl : ∀ o, Below w.heap.size w (w.alloc o) := fun o => (Below.refl _ w).alloc (Nat.le_refl _) o
  have hlt : bn < w.heap.size := (Array.getElem?_eq_some_iff.1 hn).1
  have HC := Hid.intro (fun o => needs_write r pd pl cd cl bn b (w.alloc o) ((Below.heap_alloc _ _ _ hlt).trans hn) (h.below (hbl o)))
  clear h hn
  unfold reqV
  go_enter Try.func108, Try.ntmps108
  go_wp2_with fail
  refine (HC.out _).mono ?_
  rintro e w1 ⟨⟨v, rfl⟩, hc1, hb1⟩
  have hbb : Below bn w w1 := ((hbl _).mono (by omega)).trans hb1
  clear hb1
  go_wp2
  go_returns
  exact ⟨⟨_, rfl⟩, hc1, hbb⟩

theorem kind_write (r : Req) (pd pl : Option Addr) (cd cl : Nat) (w : World) (h : r.kind = 2) :
    Calls Try.prog 78 #[reqV r pd cd pl cl] w fun e w' => e = .returned (.tuple #[.iface 138 (reqV r pd cd pl cl), .bool true]) ∧ Below w.heap.size w w' := by
  have hbl : ∀ o, Below w.heap.size w (w.alloc o) := fun o => (Below.refl _ w).alloc (Nat.le_refl _) o
  unfold reqV
  rw [h]
  go_enter Try.func78, Try.ntmps78
  go_wp2
  go_returns
  exact ⟨rfl, hbl _⟩

theorem ok_write_eq (r : Req) (h : r.kind = 2) : reqOkB r = (inB r.id 0 1 && (adrOkB r.addr r.many r.wrap && (reqWordsB r))) := by
  have e2 : ∀ a b : Int, decide (a = b) = (a == b) := fun a b => by rw [Bool.eq_iff_iff]; simp
  unfold reqOkB reqHeadB reqOneB writesB
  rw [h]
  simp [inB, Bool.and_assoc]

set_option maxRecDepth 100000 in
set_option maxHeartbeats 1000000 in
theorem ok_write (r : Req) (pd pl : Option Addr) (cd cl : Nat) (w : World) (h : ReqAt w r pd cd pl cl) (hk : r.kind = 2) :
    Calls Try.prog 64 #[reqV r pd cd pl cl] w fun e w' => e = .returned (.bool (reqOkB r)) ∧ Below w.heap.size w w' := by
  have hbl : ∀ o, Below w.heap.size w (w.alloc o) := fun o => (Below.refl _ w).alloc (Nat.le_refl _) o
  have HE := Hid.intro (ok_write_eq r hk)
  have HK := Hid.intro (fun W => kind_write r pd pl cd cl W hk)
  have HS := Hid.intro (fun bn b W h1 h2 => show_write r pd pl cd cl bn b W h1 h2)
  have HA := Hid.intro h
  clear h hk
  obtain ⟨rv, hrv⟩ : ∃ rv, rv = reqV r pd cd pl cl := ⟨_, rfl⟩
  have HR := Hid.intro hrv
  unfold reqV at hrv
  clear hrv
  unfold reqV
  go_enter Try.func64, Try.ntmps64
  go_wp2_with fail
  refine (HK.out _).mono ?_
  rintro e w1 ⟨rfl, hb1⟩
  obtain ⟨c0, c1, c2, c3, c4, c5, c6⟩ := box7 hb1
  have hs1 := hb1.size
  simp at hs1
  have hb1' := (hbl _).trans (hb1.mono (hbl _).size)
  have hA1 := Hid.intro (HA.out.below hb1')
  clear hb1 HA HK
  cases h1 : inB r.id 0 1
  · go_wp2_with (go_at_call 79; refine (nameOk_any _ _).mono ?_; rintro e w' ⟨rfl, hw⟩; replace hw := hw.symm; subst hw)
    go_ret
    exact ⟨by rw [HE.out, h1]; rfl, hb1'⟩
  cases h2 : adrOkB r.addr r.many r.wrap
  · go_wp2_with (first | (go_at_call 79; refine (nameOk_any _ _).mono ?_; rintro e w' ⟨rfl, hw⟩; replace hw := hw.symm; subst hw) | (go_at_call 26; refine (impl_AdrOk _ _ _ _).mono ?_; rintro e w' ⟨rfl, hw⟩; replace hw := hw.symm; subst hw))
    go_ret
    exact ⟨by rw [HE.out, h1, h2]; rfl, hb1'⟩
  go_wp2_with (first | (go_at_call 79; refine (nameOk_any _ _).mono ?_; rintro e w' ⟨rfl, hw⟩; replace hw := hw.symm; subst hw) | (go_at_call 26; refine (impl_AdrOk _ _ _ _).mono ?_; rintro e w' ⟨rfl, hw⟩; replace hw := hw.symm; subst hw))
  refine (HS.out w1.heap.size false _ (heap_new _ _) (hA1.out.below ((Below.refl _ w1).alloc (Nat.le_refl _) _))).mono ?_
  rintro e w2 ⟨⟨v, rfl⟩, hc2, hb2⟩
  have hb2' := hb1'.trans ((((Below.refl _ w1).alloc (Nat.le_refl _) _).trans hb2).mono hb1'.size)
  clear hb2 hA1 c0 c1 c2 c3 c4 c5 c6 HS
  go_wp2
  go_ret
  exact ⟨by rw [HE.out, h1, h2]; rfl, hb2'⟩

set_option maxRecDepth 100000 in
set_option maxHeartbeats 1000000 in
theorem needs_hold (r : Req) (pd pl : Option Addr) (cd cl : Nat) (bn : Nat) (b : Bool) (w : World) (hn : w.heap[bn]? = some (.cells #[.bool b] 126 (0, 0))) (h : ReqAt w r pd cd pl cl) :
    Calls Try.prog 106 #[.pointer (some ⟨bn, 0, none⟩), reqV r pd cd pl cl] w fun e w' => (∃ v, e = .returned v) ∧ w'.cell? ⟨bn, 0, none⟩ = some (.bool (((r.many == 1) && reqNoneB r))) ∧ Below bn w w' := by
  have hbl : ∀ o, Below w.heap.size w (w.alloc o) := fun o => (Below.refl _ w).alloc (Nat.le_refl _) o
  have hlt : bn < w.heap.size := (Array.getElem?_eq_some_iff.1 hn).1
  have HC := Hid.intro (fun o => noWords_any r pd pl cd cl (w.alloc o))
  clear h
  unfold reqV
  cases d0 : (r.many == 1)
  · go_enter Try.func106, Try.ntmps106
    have hc1 : w.cell? ⟨bn, 0, none⟩ = some (.bool b) := (heap_cell hn 0).trans rfl
    have hf1 := heap_free hn 0
    go_wp2
    go_returns
    refine ⟨⟨_, rfl⟩, (heap_cell ((Below.heap_alloc _ _ _ (by simp; omega)).trans (heap_set hn 0 (.bool false))) 0).trans rfl, ((Below.refl bn w).setCell (p := ⟨bn, 0, none⟩) (Nat.le_refl _) _).alloc (by simp; omega) _⟩
  go_enter Try.func106, Try.ntmps106
  go_wp2_with fail
  refine (HC.out _).mono ?_
  rintro e w1 ⟨rfl, hb1⟩
  have hn1 : w1.heap[bn]? = some (.cells #[.bool b] 126 (0, 0)) := (hb1.block bn (by simp; omega)).trans ((Below.heap_alloc _ _ _ hlt).trans hn)
  have hc1 : w1.cell? ⟨bn, 0, none⟩ = some (.bool b) := (heap_cell hn1 0).trans rfl
  have hf1 := heap_free hn1 0
  have hbb : Below bn w w1 := ((hbl _).mono (by omega)).trans (hb1.mono (by simp; omega))
  clear hb1 hn hn1
  go_wp2
  go_returns
  refine ⟨⟨_, rfl⟩, ?_, hbb.setCell (p := ⟨bn, 0, none⟩) (Nat.le_refl _) _⟩
  exact World.cell?_setCell_same _ _ _ hc1

set_option maxRecDepth 100000 in
set_option maxHeartbeats 1000000 in
theorem show_hold (r : Req) (pd pl : Option Addr) (cd cl : Nat) (bn : Nat) (b : Bool) (w : World) (hn : w.heap[bn]? = some (.cells #[.bool b] 126 (0, 0))) (h : ReqAt w r pd cd pl cl) :
    Calls Try.prog 109 #[reqV r pd cd pl cl, .iface 128 (.pointer (some ⟨bn, 0, none⟩))] w fun e w' => (∃ v, e = .returned v) ∧ w'.cell? ⟨bn, 0, none⟩ = some (.bool (((r.many == 1) && reqNoneB r))) ∧ Below bn w w' := by
  have hbl : ∀ o, Below w.heap.size w (w.alloc o) := fun o => (Below.refl _ w).alloc (Nat.le_refl _) o
  have hlt : bn < w.heap.size := (Array.getElem?_eq_some_iff.1 hn).1
  have HC := Hid.intro (fun o => needs_hold r pd pl cd cl bn b (w.alloc o) ((Below.heap_alloc _ _ _ hlt).trans hn) (h.below (hbl o)))
  clear h hn
  unfold reqV
  go_enter Try.func109, Try.ntmps109
  go_wp2_with fail
  refine (HC.out _).mono ?_
  rintro e w1 ⟨⟨v, rfl⟩, hc1, hb1⟩
  have hbb : Below bn w w1 := ((hbl _).mono (by omega)).trans hb1
  clear hb1
  go_wp2
  go_returns
  exact ⟨⟨_, rfl⟩, hc1, hbb⟩

theorem kind_hold (r : Req) (pd pl : Option Addr) (cd cl : Nat) (w : World) (h : r.kind = 3) :
    Calls Try.prog 78 #[reqV r pd cd pl cl] w fun e w' => e = .returned (.tuple #[.iface 139 (reqV r pd cd pl cl), .bool true]) ∧ Below w.heap.size w w' := by
  have hbl : ∀ o, Below w.heap.size w (w.alloc o) := fun o => (Below.refl _ w).alloc (Nat.le_refl _) o
  unfold reqV
  rw [h]
  go_enter Try.func78, Try.ntmps78
  go_wp2
  go_returns
  exact ⟨rfl, hbl _⟩

theorem ok_hold_eq (r : Req) (h : r.kind = 3) : reqOkB r = (inB r.id 0 1 && (adrOkB r.addr r.many r.wrap && (((r.many == 1) && reqNoneB r)))) := by
  have e2 : ∀ a b : Int, decide (a = b) = (a == b) := fun a b => by rw [Bool.eq_iff_iff]; simp
  unfold reqOkB reqHeadB reqOneB writesB
  rw [h]
  simp [inB, Bool.and_assoc]; rw [e2]

set_option maxRecDepth 100000 in
set_option maxHeartbeats 1000000 in
theorem ok_hold (r : Req) (pd pl : Option Addr) (cd cl : Nat) (w : World) (h : ReqAt w r pd cd pl cl) (hk : r.kind = 3) :
    Calls Try.prog 64 #[reqV r pd cd pl cl] w fun e w' => e = .returned (.bool (reqOkB r)) ∧ Below w.heap.size w w' := by
  have hbl : ∀ o, Below w.heap.size w (w.alloc o) := fun o => (Below.refl _ w).alloc (Nat.le_refl _) o
  have HE := Hid.intro (ok_hold_eq r hk)
  have HK := Hid.intro (fun W => kind_hold r pd pl cd cl W hk)
  have HS := Hid.intro (fun bn b W h1 h2 => show_hold r pd pl cd cl bn b W h1 h2)
  have HA := Hid.intro h
  clear h hk
  obtain ⟨rv, hrv⟩ : ∃ rv, rv = reqV r pd cd pl cl := ⟨_, rfl⟩
  have HR := Hid.intro hrv
  unfold reqV at hrv
  clear hrv
  unfold reqV
  go_enter Try.func64, Try.ntmps64
  go_wp2_with fail
  refine (HK.out _).mono ?_
  rintro e w1 ⟨rfl, hb1⟩
  obtain ⟨c0, c1, c2, c3, c4, c5, c6⟩ := box7 hb1
  have hs1 := hb1.size
  simp at hs1
  have hb1' := (hbl _).trans (hb1.mono (hbl _).size)
  have hA1 := Hid.intro (HA.out.below hb1')
  clear hb1 HA HK
  cases h1 : inB r.id 0 1
  · go_wp2_with (go_at_call 79; refine (nameOk_any _ _).mono ?_; rintro e w' ⟨rfl, hw⟩; replace hw := hw.symm; subst hw)
    go_ret
    exact ⟨by rw [HE.out, h1]; rfl, hb1'⟩
  cases h2 : adrOkB r.addr r.many r.wrap
  · go_wp2_with (first | (go_at_call 79; refine (nameOk_any _ _).mono ?_; rintro e w' ⟨rfl, hw⟩; replace hw := hw.symm; subst hw) | (go_at_call 26; refine (impl_AdrOk _ _ _ _).mono ?_; rintro e w' ⟨rfl, hw⟩; replace hw := hw.symm; subst hw))
    go_ret
    exact ⟨by rw [HE.out, h1, h2]; rfl, hb1'⟩
  go_wp2_with (first | (go_at_call 79; refine (nameOk_any _ _).mono ?_; rintro e w' ⟨rfl, hw⟩; replace hw := hw.symm; subst hw) | (go_at_call 26; refine (impl_AdrOk _ _ _ _).mono ?_; rintro e w' ⟨rfl, hw⟩; replace hw := hw.symm; subst hw))
  refine (HS.out w1.heap.size false _ (heap_new _ _) (hA1.out.below ((Below.refl _ w1).alloc (Nat.le_refl _) _))).mono ?_
  rintro e w2 ⟨⟨v, rfl⟩, hc2, hb2⟩
  have hb2' := hb1'.trans ((((Below.refl _ w1).alloc (Nat.le_refl _) _).trans hb2).mono hb1'.size)
  clear hb2 hA1 c0 c1 c2 c3 c4 c5 c6 HS
  go_wp2
  go_ret
  exact ⟨by rw [HE.out, h1, h2]; rfl, hb2'⟩

set_option maxRecDepth 100000 in
set_option maxHeartbeats 1000000 in
theorem needs_try (r : Req) (pd pl : Option Addr) (cd cl : Nat) (bn : Nat) (b : Bool) (w : World) (hn : w.heap[bn]? = some (.cells #[.bool b] 126 (0, 0))) (h : ReqAt w r pd cd pl cl) :
    Calls Try.prog 114 #[.pointer (some ⟨bn, 0, none⟩), reqV r pd cd pl cl] w fun e w' => (∃ v, e = .returned v) ∧ w'.cell? ⟨bn, 0, none⟩ = some (.bool (((r.many == 1) && reqWordsB r))) ∧ Below bn w w' := by
  have hbl : ∀ o, Below w.heap.size w (w.alloc o) := fun o => (Below.refl _ w).alloc (Nat.le_refl _) o
  have hlt : bn < w.heap.size := (Array.getElem?_eq_some_iff.1 hn).1
  have HC := Hid.intro (fun o => itsWords_any r pd pl cd cl (w.alloc o) (h.below (hbl o)))
  clear h
  unfold reqV
  cases d0 : (r.many == 1)
  · go_enter Try.func114, Try.ntmps114
    have hc1 : w.cell? ⟨bn, 0, none⟩ = some (.bool b) := (heap_cell hn 0).trans rfl
    have hf1 := heap_free hn 0
    go_wp2
    go_returns
    refine ⟨⟨_, rfl⟩, (heap_cell ((Below.heap_alloc _ _ _ (by simp; omega)).trans (heap_set hn 0 (.bool false))) 0).trans rfl, ((Below.refl bn w).setCell (p := ⟨bn, 0, none⟩) (Nat.le_refl _) _).alloc (by simp; omega) _⟩
  go_enter Try.func114, Try.ntmps114
  go_wp2_with fail
  refine (HC.out _).mono ?_
  rintro e w1 ⟨rfl, hb1⟩
  have hn1 : w1.heap[bn]? = some (.cells #[.bool b] 126 (0, 0)) := (hb1.block bn (by simp; omega)).trans ((Below.heap_alloc _ _ _ hlt).trans hn)
  have hc1 : w1.cell? ⟨bn, 0, none⟩ = some (.bool b) := (heap_cell hn1 0).trans rfl
  have hf1 := heap_free hn1 0
  have hbb : Below bn w w1 := ((hbl _).mono (by omega)).trans (hb1.mono (by simp; omega))
  clear hb1 hn hn1
  go_wp2
  go_returns
  refine ⟨⟨_, rfl⟩, ?_, hbb.setCell (p := ⟨bn, 0, none⟩) (Nat.le_refl _) _⟩
  exact World.cell?_setCell_same _ _ _ hc1

set_option maxRecDepth 100000 in
set_option maxHeartbeats 1000000 in
theorem show_try (r : Req) (pd pl : Option Addr) (cd cl : Nat) (bn : Nat) (b : Bool) (w : World) (hn : w.heap[bn]? = some (.cells #[.bool b] 126 (0, 0))) (h : ReqAt w r pd cd pl cl) :
    Calls Try.prog 111 #[reqV r pd cd pl cl, .iface 128 (.pointer (some ⟨bn, 0, none⟩))] w fun e w' => (∃ v, e = .returned v) ∧ w'.cell? ⟨bn, 0, none⟩ = some (.bool (((r.many == 1) && reqWordsB r))) ∧ Below bn w w' := by
  have hbl : ∀ o, Below w.heap.size w (w.alloc o) := fun o => (Below.refl _ w).alloc (Nat.le_refl _) o
  have hlt : bn < w.heap.size := (Array.getElem?_eq_some_iff.1 hn).1
  have HC := Hid.intro (fun o => needs_try r pd pl cd cl bn b (w.alloc o) ((Below.heap_alloc _ _ _ hlt).trans hn) (h.below (hbl o)))
  clear h hn
  unfold reqV
  go_enter Try.func111, Try.ntmps111
  go_wp2_with fail
  refine (HC.out _).mono ?_
  rintro e w1 ⟨⟨v, rfl⟩, hc1, hb1⟩
  have hbb : Below bn w w1 := ((hbl _).mono (by omega)).trans hb1
  clear hb1
  go_wp2
  go_returns
  exact ⟨⟨_, rfl⟩, hc1, hbb⟩

theorem kind_try (r : Req) (pd pl : Option Addr) (cd cl : Nat) (w : World) (h : r.kind = 4) :
    Calls Try.prog 78 #[reqV r pd cd pl cl] w fun e w' => e = .returned (.tuple #[.iface 140 (reqV r pd cd pl cl), .bool true]) ∧ Below w.heap.size w w' := by
  have hbl : ∀ o, Below w.heap.size w (w.alloc o) := fun o => (Below.refl _ w).alloc (Nat.le_refl _) o
  unfold reqV
  rw [h]
  go_enter Try.func78, Try.ntmps78
  go_wp2
  go_returns
  exact ⟨rfl, hbl _⟩

theorem ok_try_eq (r : Req) (h : r.kind = 4) : reqOkB r = (inB r.id 0 1 && (adrOkB r.addr r.many r.wrap && (((r.many == 1) && reqWordsB r)))) := by
  have e2 : ∀ a b : Int, decide (a = b) = (a == b) := fun a b => by rw [Bool.eq_iff_iff]; simp
  unfold reqOkB reqHeadB reqOneB writesB
  rw [h]
  simp [inB, Bool.and_assoc]; rw [e2]

set_option maxRecDepth 100000 in
set_option maxHeartbeats 1000000 in
theorem ok_try (r : Req) (pd pl : Option Addr) (cd cl : Nat) (w : World) (h : ReqAt w r pd cd pl cl) (hk : r.kind = 4) :
    Calls Try.prog 64 #[reqV r pd cd pl cl] w fun e w' => e = .returned (.bool (reqOkB r)) ∧ Below w.heap.size w w' := by
  have hbl : ∀ o, Below w.heap.size w (w.alloc o) := fun o => (Below.refl _ w).alloc (Nat.le_refl _) o
  have HE := Hid.intro (ok_try_eq r hk)
  have HK := Hid.intro (fun W => kind_try r pd pl cd cl W hk)
  have HS := Hid.intro (fun bn b W h1 h2 => show_try r pd pl cd cl bn b W h1 h2)
  have HA := Hid.intro h
  clear h hk
  obtain ⟨rv, hrv⟩ : ∃ rv, rv = reqV r pd cd pl cl := ⟨_, rfl⟩
  have HR := Hid.intro hrv
  unfold reqV at hrv
  clear hrv
  unfold reqV
  go_enter Try.func64, Try.ntmps64
  go_wp2_with fail
  refine (HK.out _).mono ?_
  rintro e w1 ⟨rfl, hb1⟩
  obtain ⟨c0, c1, c2, c3, c4, c5, c6⟩ := box7 hb1
  have hs1 := hb1.size
  simp at hs1
  have hb1' := (hbl _).trans (hb1.mono (hbl _).size)
  have hA1 := Hid.intro (HA.out.below hb1')
  clear hb1 HA HK
  cases h1 : inB r.id 0 1
  · go_wp2_with (go_at_call 79; refine (nameOk_any _ _).mono ?_; rintro e w' ⟨rfl, hw⟩; replace hw := hw.symm; subst hw)
    go_ret
    exact ⟨by rw [HE.out, h1]; rfl, hb1'⟩
  cases h2 : adrOkB r.addr r.many r.wrap
  · go_wp2_with (first | (go_at_call 79; refine (nameOk_any _ _).mono ?_; rintro e w' ⟨rfl, hw⟩; replace hw := hw.symm; subst hw) | (go_at_call 26; refine (impl_AdrOk _ _ _ _).mono ?_; rintro e w' ⟨rfl, hw⟩; replace hw := hw.symm; subst hw))
    go_ret
    exact ⟨by rw [HE.out, h1, h2]; rfl, hb1'⟩
  go_wp2_with (first | (go_at_call 79; refine (nameOk_any _ _).mono ?_; rintro e w' ⟨rfl, hw⟩; replace hw := hw.symm; subst hw) | (go_at_call 26; refine (impl_AdrOk _ _ _ _).mono ?_; rintro e w' ⟨rfl, hw⟩; replace hw := hw.symm; subst hw))
  refine (HS.out w1.heap.size false _ (heap_new _ _) (hA1.out.below ((Below.refl _ w1).alloc (Nat.le_refl _) _))).mono ?_
  rintro e w2 ⟨⟨v, rfl⟩, hc2, hb2⟩
  have hb2' := hb1'.trans ((((Below.refl _ w1).alloc (Nat.le_refl _) _).trans hb2).mono hb1'.size)
  clear hb2 hA1 c0 c1 c2 c3 c4 c5 c6 HS
  go_wp2
  go_ret
  exact ⟨by rw [HE.out, h1, h2]; rfl, hb2'⟩

theorem kind_no (r : Req) (pd pl : Option Addr) (cd cl : Nat) (w : World) (h1 : (r.kind == 1) = false) (h2 : (r.kind == 2) = false) (h3 : (r.kind == 3) = false) (h4 : (r.kind == 4) = false) :
    Calls Try.prog 78 #[reqV r pd cd pl cl] w fun e w' => e = .returned (.tuple #[.nilIface, .bool false]) ∧ Below w.heap.size w w' := by
  have hbl : ∀ o, Below w.heap.size w (w.alloc o) := fun o => (Below.refl _ w).alloc (Nat.le_refl _) o
  unfold reqV
  go_enter Try.func78, Try.ntmps78
  go_wp2
  go_returns
  exact ⟨rfl, hbl _⟩

theorem no_eq (r : Req) (h1 : (r.kind == 1) = false) (h2 : (r.kind == 2) = false) (h3 : (r.kind == 3) = false) (h4 : (r.kind == 4) = false) : reqOkB r = false := by
  have : inB r.kind 1 4 = false := inB_f (by simp at h1 h2 h3 h4; omega)
  simp [reqOkB, reqHeadB, this]

theorem impl_ReqOk : ReqOkC := by
  intro r pd pl cd cl w h
  cases h1 : (r.kind == 1)
  · cases h2 : (r.kind == 2)
    · cases h3 : (r.kind == 3)
      · cases h4 : (r.kind == 4)
        · have hbl : ∀ o, Below w.heap.size w (w.alloc o) := fun o => (Below.refl _ w).alloc (Nat.le_refl _) o
          have HE := Hid.intro (no_eq r h1 h2 h3 h4)
          have HK := Hid.intro (fun W => kind_no r pd pl cd cl W h1 h2 h3 h4)
          clear h h1 h2 h3 h4
          unfold reqV
          go_enter Try.func64, Try.ntmps64
          go_wp2_with fail
          refine (HK.out _).mono ?_
          rintro e w1 ⟨rfl, hb1⟩
          have hb1' := (hbl _).trans (hb1.mono (hbl _).size)
          clear hb1
          go_wp2
          go_ret
          exact ⟨by rw [HE.out]; rfl, hb1'⟩
        · exact ok_try r pd pl cd cl w h (by simpa using h4)
      · exact ok_hold r pd pl cd cl w h (by simpa using h3)
    · exact ok_write r pd pl cd cl w h (by simpa using h2)
  · exact ok_read r pd pl cd cl w h (by simpa using h1)

end Go.Proofs.Ytpjfkimgienkbaa

/-
  A range over a function whose body may leave by a return: which element makes it leave is known ('stop').
-/
namespace Go.Proofs.Ytpjfkimgienkbaa
open Go.RowKit Go.Shelf
set_option linter.unusedSimpArgs false
set_option linter.unusedVariables false
attribute [local go_sem] Oper.semAt_some

/-- what an invariant says, it says of blocks below M -/
def LocW (M : Nat) (S : World → Prop) : Prop := ∀ A B, S A → Below M A B → S B

/-- an iterator that tells xs to a body that leaves at the first x with 'stop x' -/
def ItSt {α : Type} (P : Program) (gf : Nat) (lb : Array Value) (enc : α → Value) (Cap : World → Prop) (CB : Nat → Prop) (xs : List α) : Prop :=
  ∀ (D : Nat → Prop) (l : Nat) (stop : α → Bool) (J : List α → World → Prop) (S : World → Prop) (W : World),
    (∀ k, D k → k < W.heap.size) → (∀ k, CB k → ¬ D k ∧ k < W.heap.size) → Cap W → Loc W.heap.size J → LocW W.heap.size S →
    (∀ pre x W1 m, J pre W1 → pre ++ [x] <+: xs → YieldAt Fence.wide m P l #[enc x] W1 fun e W' => e = .returned (.bool (!stop x)) ∧ ((stop x = false → J (pre ++ [x]) W') ∧ (stop x = true → S W')) ∧ Kept D W1 W') →
    J [] W → ∀ n, CallsIn Fence.wide n P gf (#[.func (.yield l) #[] #[]] ++ lb) W fun e W' => (∃ v, e = .returned v) ∧ ((xs.any stop = false → J xs W') ∧ (xs.any stop = true → S W')) ∧ Kept D W W'

def stPost {α : Type} (D : Nat → Prop) (I : List α → World → Prop) (S : World → Prop) (xs : List α) (b : Bool) (W : World) : Exit → Act → World → Prop
  | .normal, _, W' => b = false ∧ Kept D W W' ∧ I xs W'
  | .ret, _, W' => b = true ∧ Kept D W W' ∧ S W'
  | .exit _, _, _ => False
  | .goto _, _, _ => False
  | .panic _, _, _ => False
  | .outgrown, _, _ => False

theorem wpIn_rangeS {α : Type} {P : Program} {n : Nat} {g : Operand} {ps : Array Tmp} {assign body : Code} {Q : Exit → Act → World → Prop} {a : Act} {w : World}
    {gf : Nat} {lb : Array Value} (hg : a.eval g = .func (.func gf) #[] lb) (eg : ∀ args w, (callFunc gf args).run P w = .ok (.enter gf args) w)
    {enc : α → Value} {Cap : World → Prop} {CB : Nat → Prop} {xs : List α} (hseq : ItSt P gf lb enc Cap CB xs) (hcap : ∀ W, Below w.heap.size w W → Cap W) (D : Nat → Prop)
    (hD : ∀ k, D k → k < w.heap.size) (hCB : ∀ k, CB k → ¬ D k ∧ k < w.heap.size) (hps : ps.size = 1) (stop : α → Bool)
    (I : List α → World → Prop) (S : World → Prop) (hI : Loc w.heap.size I) (hS : LocW w.heap.size S) (h0 : I [] w) (a₁ : α → Act)
    (hassign : ∀ (l : Nat) (x : α) (W : World) (m : Nat) (K : Act → World → Prop), K (a₁ x) W →
      assign.wpIn (Fence.wide.inRound l) m P (Exit.then K (fun _ _ _ => False)) { tmps := (ps.zip #[enc x]).foldl (fun t (p, v) => t.setIfInBounds p v) a.tmps, defers := [] } W)
    (hbody : ∀ (l : Nat) (pre : List α) (x : α) (W : World) (m : Nat), I pre W → pre ++ [x] <+: xs → body.wpIn (Fence.wide.inRound l) m P (stPost D I S (pre ++ [x]) (stop x) W) (a₁ x) W)
    (hdone : ∀ (B : Nat) (W : World), w.heap.size ≤ B → xs.any stop = false → I xs W → W.heap[B]? = some (.deferred (some [])) → Q .normal { a with defers := { target := .collected B, args := #[] } :: a.defers } W)
    (hstop : ∀ (B : Nat) (W : World), w.heap.size ≤ B → xs.any stop = true → S W → W.heap[B]? = some (.deferred (some [])) → Code.ret.wpIn Fence.wide n P Q { a with defers := { target := .collected B, args := #[] } :: a.defers } W) :
    (Code.rangeFunc g ps assign body).wpIn Fence.wide n P Q a w := by
  refine wpIn_rangeFunc ?_
  intro fn hfn
  show ∃ l mark w₁ d w₁' f args w₂, (Instr.enterLoop fn a.tmps ps assign body none).run P w = _ ∧ _
  obtain ⟨rec, hrec⟩ : ∃ rec : LoopState → Option Code → Loop, rec = fun st pe => { state := st, pending := pe, fn, tmps := a.tmps, params := ps, assign, body, defers := w.heap.size } := ⟨_, rfl⟩
  obtain ⟨W1, hW1⟩ : ∃ W1, (w.alloc (.deferred (some []))).alloc (.loop (rec .ready none)) = W1 := ⟨_, rfl⟩
  have hL1 : W1.heap[w.heap.size + 1]? = some (.loop (rec .ready none)) := by
    rw [← hW1]; have := World.alloc_heap_new (w.alloc (.deferred (some []))) (.loop (rec .ready none)); rwa [World.size_alloc] at this
  have hK1 : W1.heap[w.heap.size]? = some (.deferred (some [])) := by
    rw [← hW1]; exact (Below.heap_alloc _ _ _ (by simp)).trans (World.alloc_heap_new w _)
  have hb1 : Below w.heap.size w W1 := by
    rw [← hW1]; exact (((Below.refl _ w).alloc (Nat.le_refl _) _).alloc (by simp) _)
  have hI1 : I [] W1 := hI _ _ _ h0 hb1
  have hs1 : W1.heap.size = w.heap.size + 2 := by rw [← hW1]; simp
  refine ⟨w.heap.size + 1, [{ target := .collected w.heap.size, args := #[] }], W1, { target := .fn (.func gf) lb, args := #[.func (.yield (w.heap.size + 1)) #[] #[]] }, W1, gf,
    #[.func (.yield (w.heap.size + 1)) #[] #[]] ++ lb, W1, ?_, ?_, ?_, ?_, ?_, ?_⟩
  · rw [← hW1, hrec]; exact run_enterLoop_outer _ _ _ _ _
  · simp only [resolve, hg]
    simp [go_sem]
  · intro f' hf'; trivial
  · simp [invoke, go_sem, eg]
  · intro h; cases h
  · refine (hseq (fun k => D k ∨ k = w.heap.size + 1) (w.heap.size + 1) stop
      (fun pre W => I pre W ∧ W.heap[w.heap.size + 1]? = some (.loop (rec .ready none)) ∧ W.heap[w.heap.size]? = some (.deferred (some [])))
      (fun W => S W ∧ W.heap[w.heap.size + 1]? = some (.loop (rec .done (some .ret))) ∧ W.heap[w.heap.size]? = some (.deferred (some [])))
      W1 (fun k hk => by rcases hk with hk | rfl; · have := hD k hk; omega
                         · omega)
      (fun k hk => ⟨fun e => by rcases e with e | rfl; · exact (hCB k hk).1 e
                                · have := (hCB _ hk).2; omega, by have := (hCB k hk).2; omega⟩) (hcap _ hb1)
      (fun s A B hs hb => ⟨hI s A B hs.1 (hb.mono (by omega)), (hb.block _ (by omega)).trans hs.2.1, (hb.block _ (by omega)).trans hs.2.2⟩)
      (fun A B hs hb => ⟨hS A B hs.1 (hb.mono (by omega)), (hb.block _ (by omega)).trans hs.2.1, (hb.block _ (by omega)).trans hs.2.2⟩)
      ?_ ⟨hI1, hL1, hK1⟩ (n - 1)).mono ?_
    · rintro pre x W m ⟨hi, hl, hk⟩ hpre
      have hlt : w.heap.size + 1 < W.heap.size := (Array.getElem?_eq_some_iff.1 hl).1
      have hy := run_yield (P := P) (args := #[enc x]) hl (by rw [hrec]; exact hps.symm)
      rw [hrec] at hy
      refine ⟨fn, _, assign, body, hy, roundIn_of_wpIn hfn (hassign _ x W m _ ⟨_, run_beginRound hl (by rw [hrec]), ?_⟩)⟩
      have hl2 : (W.putObj (w.heap.size + 1) (.loop { rec .ready none with state := .busy })).heap[w.heap.size + 1]? = some (.loop { rec .ready none with state := .busy }) := World.putObj_heap_same hlt
      have hk2 : (W.putObj (w.heap.size + 1) (.loop { rec .ready none with state := .busy })).heap[w.heap.size]? = some (.deferred (some [])) := (World.putObj_heap_other (by omega)).trans hk
      refine wpIn_mono (hbody _ pre x _ m (hI _ _ _ hi (below_putObj _ (by omega) _)) hpre) ?_
      rintro e a3 W3 hp
      cases e with
      | normal =>
        obtain ⟨hst, hk3, hi3⟩ := hp
        have hl3 := (hk3.block _ (by simpa using hlt) (fun e => by have := hD _ e; omega)).trans hl2
        have hkk := (hk3.block _ (by simp; omega) (fun e => by have := hD _ e; omega)).trans hk2
        have hr := run_endRound (P := P) none hl3
        refine ⟨_, _, hr, by rw [hst]; rfl, ⟨fun _ => ⟨hI _ _ _ hi3 (below_putObj _ (by omega) _), ?_, (World.putObj_heap_other (by omega)).trans hkk⟩, fun h => (by rw [hst] at h; cases h)⟩, ?_⟩
        · rw [World.putObj_heap_same (Array.getElem?_eq_some_iff.1 hl3).1]
          rw [hrec]; rfl
        · exact ((Kept.putObj W (D := fun k => D k ∨ k = w.heap.size + 1) (.inr rfl) _).trans (hk3.mono (fun k hk => .inl hk))).trans (Kept.putObj W3 (.inr rfl) _)
      | ret =>
        obtain ⟨hst, hk3, hi3⟩ := hp
        have hl3 := (hk3.block _ (by simpa using hlt) (fun e => by have := hD _ e; omega)).trans hl2
        have hkk := (hk3.block _ (by simp; omega) (fun e => by have := hD _ e; omega)).trans hk2
        have hr := run_endRound (P := P) (some .ret) hl3
        refine ⟨_, _, hr, by rw [hst]; rfl, ⟨fun h => (by rw [hst] at h; cases h), fun _ => ⟨hS _ _ hi3 (below_putObj _ (by omega) _), ?_, (World.putObj_heap_other (by omega)).trans hkk⟩⟩, ?_⟩
        · rw [World.putObj_heap_same (Array.getElem?_eq_some_iff.1 hl3).1]
          rw [hrec]; rfl
        · exact ((Kept.putObj W (D := fun k => D k ∨ k = w.heap.size + 1) (.inr rfl) _).trans (hk3.mono (fun k hk => .inl hk))).trans (Kept.putObj W3 (.inr rfl) _)
      | exit id => exact hp.elim
      | goto t => exact hp.elim
      | panic ch => exact hp.elim
      | outgrown => exact hp.elim
    · rintro e W2 ⟨⟨v, rfl⟩, ⟨hno, hyes⟩, _⟩
      cases hany : xs.any stop
      · obtain ⟨hi, hl, hk⟩ := hno hany
        exact ⟨none, _, by have := run_endLoop (P := P) hl (by rw [hrec]; simp); rw [hrec] at this; exact this, hdone _ _ (Nat.le_refl _) hany (hI _ _ _ hi (below_putObj _ (by omega) _)) ((World.putObj_heap_other (by omega)).trans hk)⟩
      · obtain ⟨hi, hl, hk⟩ := hyes hany
        exact ⟨some .ret, _, by have := run_endLoop (P := P) hl (by rw [hrec]; simp); rw [hrec] at this; exact this, hstop _ _ (Nat.le_refl _) hany (hS _ _ hi (below_putObj _ (by omega) _)) ((World.putObj_heap_other (by omega)).trans hk)⟩

end Go.Proofs.Ytpjfkimgienkbaa

/-
  The program's iterators over addresses, told to a body that may leave: inRow.
-/
namespace Go.Proofs.Ytpjfkimgienkbaa
open Go.RowKit Go.Shelf
set_option linter.unusedSimpArgs false
set_option linter.unusedVariables false
attribute [local go_sem] Oper.semAt_some

theorem any_at {α : Type} {stop : α → Bool} {pre : List α} {x : α} {xs : List α} (hp : pre ++ [x] <+: xs) (hs : stop x = true) : xs.any stop = true := by
  obtain ⟨t, rfl⟩ := hp
  simp [hs]

end Go.Proofs.Ytpjfkimgienkbaa

/-
  roundAbout's iterator, told to a body that may leave.
-/
namespace Go.Proofs.Ytpjfkimgienkbaa
open Go.RowKit Go.Shelf
set_option linter.unusedSimpArgs false
set_option linter.unusedVariables false
attribute [local go_sem] Oper.semAt_some

def rfS (l : Nat) (fst x : Int) (n : Nat) (b : Bool) : Nat → Value
  | 13 => .func (.yield l) #[] #[]
  | 14 => .int .i64 fst
  | 15 => .int .i64 x
  | 16 => .int .i64 fst
  | 17 => .int .i64 (x - fst)
  | 18 => .int .i64 n
  | 19 => .int .i64 ((x - fst) % (n : Int))
  | 20 => .int .i64 (fst + (x - fst) % (n : Int))
  | 21 => .bool (!b)
  | 22 => .bool b
  | _ => undef

end Go.Proofs.Ytpjfkimgienkbaa

/-
  The range in which all of what is asked is: reqIsIn of the program.
-/
namespace Go.Proofs.Ytpjfkimgienkbaa
open Go.RowKit Go.Shelf
set_option linter.unusedSimpArgs false
set_option linter.unusedVariables false
attribute [local go_sem] Oper.semAt_some

/-- all are in a range -/
def allInR (g : Rng) (l : List Int) : Bool := l.all (inRngB g)
theorem allInR_not (g : Rng) (l : List Int) : l.any (fun x => !inRngB g x) = !allInR g l := by
  simp [allInR, List.any_eq_not_all_not]

end Go.Proofs.Ytpjfkimgienkbaa

/-
  Plain facts on ranges that are ok: parts of them; one of them twice; one of them left out; no address in two.
-/
namespace Go.Proofs.Ytpjfkimgienkbaa
set_option linter.unusedSimpArgs false
set_option linter.unusedVariables false

theorem okAll_iff : ∀ (l ah : List Rng), okAll ah l = true ↔ (∀ r ∈ l, rngOkB r = true) ∧ (∀ r ∈ l, ∀ x ∈ ah, rngMeetB x r = false) ∧ l.Pairwise (fun a b => rngMeetB a b = false)
  | [], ah => by simp [okAll]
  | r :: l, ah => by
    have ih := okAll_iff l (ah ++ [r])
    simp only [okAll, Bool.and_eq_true, okAhead, List.all_eq_true, Bool.not_eq_true', ih, List.mem_cons, List.pairwise_cons, List.mem_append, List.not_mem_nil, or_false]
    constructor
    · rintro ⟨⟨h1, h2⟩, h3, h4, h5⟩
      refine ⟨?_, ?_, ?_, h5⟩
      · rintro x (rfl | hx)
        · exact h1
        · exact h3 x hx
      · rintro x (rfl | hx) y hy
        · exact h2 y hy
        · exact h4 x hx y (.inl hy)
      · intro x hx
        exact h4 x hx r (.inr rfl)
    · rintro ⟨h1, h2, h3, h4⟩
      refine ⟨⟨h1 r (.inl rfl), fun x hx => h2 r (.inl rfl) x hx⟩, fun x hx => h1 x (.inr hx), ?_, h4⟩
      rintro x hx y (hy | rfl)
      · exact h2 x (.inr hx) y hy
      · exact h3 x hx

theorem mapOk_iff (l : List Rng) : mapOkB l = true ↔ l.length ≤ 4 ∧ (∀ r ∈ l, rngOkB r = true) ∧ l.Pairwise (fun a b => rngMeetB a b = false) := by
  simp [mapOkB, okAll_iff]

theorem mapOk_sub {l m : List Rng} (h : mapOkB l = true) (hs : m.Sublist l) : mapOkB m = true := by
  rw [mapOk_iff] at h ⊢
  exact ⟨Nat.le_trans hs.length_le h.1, fun r hr => h.2.1 r (hs.subset hr), h.2.2.sublist hs⟩
theorem mapOk_take {l : List Rng} (h : mapOkB l = true) (k : Nat) : mapOkB (l.take k) = true := mapOk_sub h (List.take_sublist k l)
theorem meet_self {r : Rng} (h : rngOkB r = true) : rngMeetB r r = true := by
  simp [rngOkB] at h
  simp [rngMeetB]; omega
theorem mapOk_twice {l : List Rng} (h : mapOkB l = true) (k : Nat) (hk : k < l.length) : mapOkB (l ++ [l[k]]) = false := by
  rw [← Bool.not_eq_true, mapOk_iff]
  rintro ⟨_, _, hp⟩
  rw [mapOk_iff] at h
  rw [List.pairwise_append] at hp
  have h1 := hp.2.2 l[k] (List.getElem_mem hk) l[k] (by simp)
  rw [meet_self (h.2.1 _ (List.getElem_mem hk))] at h1
  cases h1

theorem in_meet {a b : Rng} {n : Int} (h1 : inRngB a n = true) (h2 : inRngB b n = true) : rngMeetB a b = true := by
  simp [inRngB] at h1 h2
  simp [rngMeetB]; omega

/-- how many of them have an address -/
def hits (n : Int) (l : List Rng) : Nat := (l.filter (fun r => inRngB r n)).length
theorem hits_le {l : List Rng} (h : l.Pairwise (fun a b => rngMeetB a b = false)) (n : Int) : hits n l ≤ 1 := by
  induction l with
  | nil => simp [hits]
  | cons r l ih =>
    rw [List.pairwise_cons] at h
    have ih := ih h.2
    by_cases hr : inRngB r n = true
    · have h0 : l.filter (fun r => inRngB r n) = [] := by
        rw [List.filter_eq_nil_iff]
        intro x hx hxn
        have := in_meet hr hxn
        rw [h.1 x hx] at this
        cases this
      simp [hits, hr, h0]
    · simp only [hits, List.filter_cons, hr] at ih ⊢
      exact ih
theorem hits_step {l : List Rng} {k : Nat} {n : Int} (h : k < l.length) : hits n (l.take (k + 1)) = hits n (l.take k) + (if inRngB l[k] n then 1 else 0) := by
  rw [take_at h]
  simp only [hits, List.filter_append, List.length_append]
  by_cases hr : inRngB l[k] n = true <;> simp [hr]
theorem hits_ok {l : List Rng} (h : mapOkB l = true) (n : Int) (k : Nat) : hits n (l.take k) ≤ 1 :=
  hits_le (((mapOk_iff l).1 h).2.2.sublist (List.take_sublist k l)) n

theorem find_app (l m : List Rng) (n : Int) : mapFindZ (l ++ m) n = if l.any (fun r => inRngB r n) then mapFindZ l n else mapFindZ m n := by
  induction l with
  | nil => simp
  | cons r l ih =>
    by_cases hr : inRngB r n = true
    · simp [mapFindZ, hr]
    · simp only [List.cons_append, mapFindZ, hr, ih, List.any_cons]
      simp
theorem find_none {l : List Rng} {n : Int} (h : ∀ r ∈ l, inRngB r n = false) : mapFindZ l n = 3 := by
  induction l with
  | nil => rfl
  | cons r l ih => simp [mapFindZ, h r (by simp), ih (fun x hx => h x (by simp [hx]))]

/-- one of them left out -/
def without (l : List Rng) (k : Nat) : List Rng := l.take k ++ l.drop (k + 1)
theorem without_sub (l : List Rng) (k : Nat) : (without l k).Sublist l := by
  unfold without
  have h : l = l.take k ++ l.drop k := (List.take_append_drop k l).symm
  have h2 : (l.take k ++ l.drop (k + 1)).Sublist (l.take k ++ l.drop k) := List.Sublist.append (List.Sublist.refl _) (by
    rw [← List.drop_drop]
    exact List.drop_sublist 1 _)
  rw [← h] at h2
  exact h2
theorem mapOk_without {l : List Rng} (h : mapOkB l = true) (k : Nat) : mapOkB (without l k) = true := mapOk_sub h (without_sub l k)
theorem split_at {l : List Rng} {k : Nat} (h : k < l.length) : l = l.take k ++ l[k] :: l.drop (k + 1) := by
  rw [← drop_at h, List.take_append_drop]
theorem find_without_in {l : List Rng} (h : mapOkB l = true) {k : Nat} (hk : k < l.length) {n : Int} (hn : inRngB l[k] n = true) : mapFindZ (without l k) n = 3 := by
  have hp := ((mapOk_iff l).1 h).2.2
  rw [split_at hk, List.pairwise_append, List.pairwise_cons] at hp
  refine find_none (fun r hr => ?_)
  rw [← Bool.not_eq_true]
  intro hrn
  rcases List.mem_append.1 hr with hr | hr
  · have := hp.2.2 r hr l[k] List.mem_cons_self
    rw [in_meet hrn hn] at this
    cases this
  · have := hp.2.1.1 r hr
    rw [in_meet hn hrn] at this
    cases this
theorem find_without_out {l : List Rng} {k : Nat} (hk : k < l.length) {n : Int} (hn : inRngB l[k] n = false) : mapFindZ (without l k) n = mapFindZ l n := by
  have e : mapFindZ l n = mapFindZ (l.take k ++ l[k] :: l.drop (k + 1)) n := by rw [← split_at hk]
  rw [e, without, find_app, find_app]
  simp [mapFindZ, hn]

end Go.Proofs.Ytpjfkimgienkbaa

namespace Go.Proofs.Ytpjfkimgienkbaa
open Go.RowKit
set_option linter.unusedSimpArgs false
set_option linter.unusedVariables false

/-- the first range that has them all -/
def rgFirst (ms : List Rng) (l : List Int) : Option Rng := ms.find? (fun g => allInR g l)
def zeroR : Rng := ⟨0, 0, 0, false⟩
def rgZ (ms : List Rng) (l : List Int) : Rng := (rgFirst ms l).getD zeroR
theorem rg_none {ms : List Rng} {l : List Int} {k : Nat} (hk : ms.length ≤ k) (h : rgFirst (ms.take k) l = none) : rgFirst ms l = none := by
  rwa [List.take_of_length_le hk] at h
theorem rg_step {ms : List Rng} {l : List Int} {k : Nat} (hk : k < ms.length) (h : rgFirst (ms.take k) l = none) (hn : allInR ms[k] l = false) : rgFirst (ms.take (k + 1)) l = none := by
  unfold rgFirst at *
  rw [List.take_succ_eq_append_getElem hk, List.find?_append, h]
  simp [hn]
theorem rg_hit {ms : List Rng} {l : List Int} {k : Nat} (hk : k < ms.length) (h : rgFirst (ms.take k) l = none) (hn : allInR ms[k] l = true) : rgFirst ms l = some ms[k] := by
  unfold rgFirst at *
  have e : ms = ms.take k ++ ms[k] :: ms.drop (k + 1) := by
    rw [List.getElem_cons_drop, List.take_append_drop]
  have hn' : (fun g => allInR g l) ms[k] = true := hn
  have e2 : List.find? (fun g => allInR g l) (ms.take k ++ ms[k] :: ms.drop (k + 1)) = some ms[k] := by
    rw [List.find?_append, h, List.find?_cons_of_pos (p := fun g => allInR g l) hn]
    rfl
  rw [← e] at e2
  exact e2

theorem findAt_only {ms : List Rng} (hd : ms.Pairwise (fun a b => rngMeetB a b = false)) {j : Nat} (hj : j < ms.length) {x : Int} (hx : inRngB ms[j] x = true) : findAt ms x 0 = (j : Int) := by
  rcases findAt_spec x ms 0 with ⟨h, h2⟩ | ⟨i, hi, h, _, hin⟩
  · exfalso
    have : ∀ (l : List Rng) (k : Nat), findAt l x k = -1 → ∀ r ∈ l, inRngB r x = false := by
      intro l
      induction l with
      | nil => intro k _ r hr; cases hr
      | cons a l ih =>
        intro k hk r hr
        simp only [findAt] at hk
        by_cases ha : inRngB a x = true
        · rw [if_pos ha] at hk; omega
        · rw [if_neg ha] at hk
          rcases List.mem_cons.1 hr with rfl | hr
          · simpa using ha
          · exact ih _ hk r hr
    have := this ms 0 h ms[j] (List.getElem_mem hj)
    rw [hx] at this; cases this
  · rw [h]
    simp only [Nat.zero_add]
    have hmeet : ∀ a b : Rng, inRngB a x = true → inRngB b x = true → rngMeetB a b = true := by
      intro a b ha hb
      simp [inRngB] at ha hb
      simp [rngMeetB]; omega
    rw [List.pairwise_iff_getElem] at hd
    rcases Nat.lt_trichotomy i j with hij | hij | hij
    · have := hd i j hi hj hij
      rw [hmeet _ _ hin hx] at this; cases this
    · rw [hij]
    · have := hd j i hj hi hij
      rw [hmeet _ _ hx hin] at this; cases this

theorem rg_slave {ms : List Rng} (hok : mapOkB ms = true) {l : List Int} (hl : l ≠ []) : slaveAt ms (wholeZ ms l) = (match rgFirst ms l with | some g => g.sl | none => 3) := by
  have hd := ((mapOk_iff ms).1 hok).2.2
  cases l with
  | nil => exact absurd rfl hl
  | cons a l =>
    cases hf : rgFirst ms (a :: l) with
    | some g =>
      unfold rgFirst at hf
      have hp := List.find?_some hf
      obtain ⟨j, hj, rfl⟩ := List.mem_iff_getElem.1 (List.mem_of_find?_eq_some hf)
      simp only [allInR, List.all_cons, Bool.and_eq_true] at hp
      have e0 := findAt_only hd hj hp.1
      have hall : (l.all fun x => findAt ms x 0 == findAt ms a 0) = true := by
        rw [List.all_eq_true]
        intro x hx
        have := (List.all_eq_true.1 hp.2) x hx
        rw [findAt_only hd hj this, e0]; simp
      have hw : wholeZ ms (a :: l) = (j : Int) := by
        show (if (l.all fun x => findAt ms x 0 == findAt ms a 0) = true then findAt ms a 0 else -1) = _
        rw [if_pos hall, e0]
      rw [hw]
      have h0 : ¬ ((j : Int) < 0) := by omega
      simp [slaveAt, h0, hj]
    | none =>
      rcases whole_range ms (a :: l) with hk | ⟨k, hk, hke⟩
      · rw [hk]; rfl
      · exfalso
        have hw := hke
        simp only [wholeZ] at hw
        by_cases hall : (l.all fun x => findAt ms x 0 == findAt ms a 0) = true
        · rw [if_pos hall] at hw
          have hin : ∀ x, findAt ms x 0 = (k : Int) → inRngB ms[k] x = true := by
            intro x hx
            rcases findAt_spec x ms 0 with ⟨h, _⟩ | ⟨i, hi, h, _, hin⟩
            · omega
            · have : i = k := by omega
              subst this; exact hin
          have : allInR ms[k] (a :: l) = true := by
            simp only [allInR, List.all_cons, Bool.and_eq_true]
            refine ⟨hin a hw, ?_⟩
            rw [List.all_eq_true]
            intro x hx
            have := (List.all_eq_true.1 hall) x hx
            exact hin x (by simp at this; omega)
          unfold rgFirst at hf
          have := List.find?_eq_none.1 hf ms[k] (List.getElem_mem hk)
          simp_all
        · rw [if_neg hall] at hw; omega

theorem results_row_tmp {P : Program} {fn : Func} {p u : Tmp} {ty : TypeId} (h : fn.results = #[.cell p ty, .tmp u]) (tmps : Array Value) (w : World) (g : Nat) (t : TypeId) (cs : Array Value) (fr : Nat × Nat) (d : TypeDesc)
    (hp : tmps.getD p undef = .pointer (some ⟨g, 0, none⟩)) (hg : w.heap[g]? = some (.cells cs t fr))
    (hu : P.underlying ty = some d) (hd : (match d with | .struct _ | .array _ _ => true | _ => false) = true) (hi : (P.info? ty).map (·.size) = some cs.size) :
    (results fn tmps).run P w = .ok (.tuple #[.agg cs, tmps.getD u undef]) w := by
  rw [results_cell_tmp h, hp]
  simp [asAddr, run_loadVar_row w g t ty cs fr d hg hu hd hi, Result.andThen]

theorem setQ4 {w : World} {b : Nat} {o0 o1 o2 o3 v0 v1 v2 v3 : Value} {t : TypeId} (h : w.heap[b]? = some (.cells #[o0, o1, o2, o3] t (0, 0))) :
    ((((w.setCell ⟨b, 0, none⟩ v0).setCell ⟨b, 1, none⟩ v1).setCell ⟨b, 2, none⟩ v2).setCell ⟨b, 3, none⟩ v3).heap[b]? = some (.cells #[v0, v1, v2, v3] t (0, 0)) :=
  heap_set (heap_set (heap_set (heap_set h 0 v0) 1 v1) 2 v2) 3 v3
theorem belowQ4 {M : Nat} {w w1 : World} {b : Nat} {v0 v1 v2 v3 : Value} (h : Below M w w1) (hb : M ≤ b) : Below M w ((((w1.setCell ⟨b, 0, none⟩ v0).setCell ⟨b, 1, none⟩ v1).setCell ⟨b, 2, none⟩ v2).setCell ⟨b, 3, none⟩ v3) :=
  (((h.setCell (p := ⟨b, 0, none⟩) hb v0).setCell (p := ⟨b, 1, none⟩) hb v1).setCell (p := ⟨b, 2, none⟩) hb v2).setCell (p := ⟨b, 3, none⟩) hb v3

theorem req_adr {r : Req} (h : reqOkB r = true) : adrOkB r.addr r.many r.wrap = true := by
  simp [reqOkB, reqHeadB] at h
  exact h.1.2.2
theorem burst_ne {a m : Int} {wrap : Bool} (h : adrOkB a m wrap = true) : burst a m wrap ≠ [] := by
  obtain ⟨_, _, h3, _⟩ := (adrOk_iff a m wrap).1 h
  rw [burst_ok h]
  intro e
  have := congrArg List.length e
  simp at this
  omega
theorem slave_rg {ms : List Rng} {r : Req} (h1 : mapOkB ms = true) (h2 : reqOkB r = true) : reqSlaveZ ms r = (match rgFirst ms (burst r.addr r.many r.wrap) with | some g => g.sl | none => 3) := by
  rw [← rg_slave h1 (burst_ne (req_adr h2))]
  simp [reqSlaveZ, h1, h2]

end Go.Proofs.Ytpjfkimgienkbaa
