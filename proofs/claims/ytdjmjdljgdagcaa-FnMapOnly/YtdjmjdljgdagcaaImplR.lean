/-
  ReqOk of the program: each kind shows itself to a visitor.
-/
import Derived.Test.YtdjmjdljgdagcaaImplQ
import Derived.Test.YtdjmjdljgdagcaaCtrQ
import Derived.Test.YtdjmjdljgdagcaaPInt
namespace Go.Proofs.Ytdjmjdljgdagcaa
open Go.RowKit
set_option linter.unusedSimpArgs false
set_option linter.unusedVariables false

theorem heap_new (w : World) (o : Obj) : (w.alloc o).heap[w.heap.size]? = some o := by
  show (w.heap.push o)[w.heap.size]? = some o
  simp

set_option maxRecDepth 100000 in
set_option maxHeartbeats 1000000 in
theorem needs_read (r : Req) (pd pl : Option Addr) (cd cl : Nat) (bn : Nat) (b : Bool) (w : World) (hn : w.heap[bn]? = some (.cells #[.bool b] 82 (0, 0))) (h : ReqAt w r pd cd pl cl) :
    Calls Try.prog 107 #[.pointer (some ⟨bn, 0, none⟩), reqV r pd cd pl cl] w fun e w' => (∃ v, e = .returned v) ∧ w'.cell? ⟨bn, 0, none⟩ = some (.bool (reqNoneB r)) ∧ Below bn w w' := by
  have hbl : ∀ o, Below w.heap.size w (w.alloc o) := fun o => (Below.refl _ w).alloc (Nat.le_refl _) o
  have hlt : bn < w.heap.size := (Array.getElem?_eq_some_iff.1 hn).1
  have HC := Hid.intro (fun o => noWords_any r pd pl cd cl (w.alloc o))
  clear h
  unfold reqV
  go_enter Try.func107, Try.ntmps107
  go_wp2_with fail
  refine (HC.out _).mono ?_
  rintro e w1 ⟨rfl, hb1⟩
  have hn1 : w1.heap[bn]? = some (.cells #[.bool b] 82 (0, 0)) := (hb1.block bn (by simp; omega)).trans ((Below.heap_alloc _ _ _ hlt).trans hn)
  have hc1 : w1.cell? ⟨bn, 0, none⟩ = some (.bool b) := (heap_cell hn1 0).trans rfl
  have hf1 := heap_free hn1 0
  have hbb : Below bn w w1 := ((hbl _).mono (by omega)).trans (hb1.mono (by simp; omega))
  clear hb1 hn hn1
  go_wp2
  go_returns
  refine ⟨⟨_, rfl⟩, ?_, hbb.setCell (p := ⟨bn, 0, none⟩) (Nat.le_refl _) _⟩
  exact World.cell?_setCell_same _ _ _ hc1

set_option maxRecDepth 100000 in
set_option maxHeartbeats 1000000 in
theorem show_read (r : Req) (pd pl : Option Addr) (cd cl : Nat) (bn : Nat) (b : Bool) (w : World) (hn : w.heap[bn]? = some (.cells #[.bool b] 82 (0, 0))) (h : ReqAt w r pd cd pl cl) :
    Calls Try.prog 101 #[reqV r pd cd pl cl, .iface 84 (.pointer (some ⟨bn, 0, none⟩))] w fun e w' => (∃ v, e = .returned v) ∧ w'.cell? ⟨bn, 0, none⟩ = some (.bool (reqNoneB r)) ∧ Below bn w w' := by
  have hbl : ∀ o, Below w.heap.size w (w.alloc o) := fun o => (Below.refl _ w).alloc (Nat.le_refl _) o
  have hlt : bn < w.heap.size := (Array.getElem?_eq_some_iff.1 hn).1
  have HC := Hid.intro (fun o => needs_read r pd pl cd cl bn b (w.alloc o) ((Below.heap_alloc _ _ _ hlt).trans hn) (h.below (hbl o)))
  clear h hn
  unfold reqV
  go_enter Try.func101, Try.ntmps101
  go_wp2_with fail
  refine (HC.out _).mono ?_
  rintro e w1 ⟨⟨v, rfl⟩, hc1, hb1⟩
  have hbb : Below bn w w1 := ((hbl _).mono (by omega)).trans hb1
  clear hb1
  go_wp2
  go_returns
  exact ⟨⟨_, rfl⟩, hc1, hbb⟩

theorem kind_read (r : Req) (pd pl : Option Addr) (cd cl : Nat) (w : World) (h : r.kind = 1) :
    Calls Try.prog 52 #[reqV r pd cd pl cl] w fun e w' => e = .returned (.tuple #[.iface 106 (reqV r pd cd pl cl), .bool true]) ∧ Below w.heap.size w w' := by
  have hbl : ∀ o, Below w.heap.size w (w.alloc o) := fun o => (Below.refl _ w).alloc (Nat.le_refl _) o
  unfold reqV
  rw [h]
  go_enter Try.func52, Try.ntmps52
  go_wp2
  go_returns
  exact ⟨rfl, hbl _⟩

theorem ok_read_eq (r : Req) (h : r.kind = 1) : reqOkB r = (inB r.id 0 1 && (adrOkB r.addr r.many r.wrap && (reqNoneB r))) := by
  have e2 : ∀ a b : Int, decide (a = b) = (a == b) := fun a b => by rw [Bool.eq_iff_iff]; simp
  unfold reqOkB reqHeadB reqOneB writesB
  rw [h]
  simp [inB, Bool.and_assoc]

set_option maxRecDepth 100000 in
set_option maxHeartbeats 1000000 in
theorem ok_read (r : Req) (pd pl : Option Addr) (cd cl : Nat) (w : World) (h : ReqAt w r pd cd pl cl) (hk : r.kind = 1) :
    Calls Try.prog 21 #[reqV r pd cd pl cl] w fun e w' => e = .returned (.bool (reqOkB r)) ∧ Below w.heap.size w w' := by
  have hbl : ∀ o, Below w.heap.size w (w.alloc o) := fun o => (Below.refl _ w).alloc (Nat.le_refl _) o
  have HE := Hid.intro (ok_read_eq r hk)
  have HK := Hid.intro (fun W => kind_read r pd pl cd cl W hk)
  have HS := Hid.intro (fun bn b W h1 h2 => show_read r pd pl cd cl bn b W h1 h2)
  have HA := Hid.intro h
  clear h hk
  obtain ⟨rv, hrv⟩ : ∃ rv, rv = reqV r pd cd pl cl := ⟨_, rfl⟩
  have HR := Hid.intro hrv
  unfold reqV at hrv
  clear hrv
  unfold reqV
  go_enter Try.func21, Try.ntmps21
  go_wp2_with fail
  refine (HK.out _).mono ?_
  rintro e w1 ⟨rfl, hb1⟩
  obtain ⟨c0, c1, c2, c3, c4, c5, c6⟩ := box7 hb1
  have hs1 := hb1.size
  simp at hs1
  have hb1' := (hbl _).trans (hb1.mono (hbl _).size)
  have hA1 := Hid.intro (HA.out.below hb1')
  clear hb1 HA HK
  cases h1 : inB r.id 0 1
  · go_wp2_with (go_at_call 53; refine (nameOk_any _ _).mono ?_; rintro e w' ⟨rfl, hw⟩; replace hw := hw.symm; subst hw)
    go_ret
    exact ⟨by rw [HE.out, h1]; rfl, hb1'⟩
  cases h2 : adrOkB r.addr r.many r.wrap
  · go_wp2_with (first | (go_at_call 53; refine (nameOk_any _ _).mono ?_; rintro e w' ⟨rfl, hw⟩; replace hw := hw.symm; subst hw) | (go_at_call 50; refine (impl_AdrOk _ _ _ _).mono ?_; rintro e w' ⟨rfl, hw⟩; replace hw := hw.symm; subst hw))
    go_ret
    exact ⟨by rw [HE.out, h1, h2]; rfl, hb1'⟩
  go_wp2_with (first | (go_at_call 53; refine (nameOk_any _ _).mono ?_; rintro e w' ⟨rfl, hw⟩; replace hw := hw.symm; subst hw) | (go_at_call 50; refine (impl_AdrOk _ _ _ _).mono ?_; rintro e w' ⟨rfl, hw⟩; replace hw := hw.symm; subst hw))
  refine (HS.out w1.heap.size false _ (heap_new _ _) (hA1.out.below ((Below.refl _ w1).alloc (Nat.le_refl _) _))).mono ?_
  rintro e w2 ⟨⟨v, rfl⟩, hc2, hb2⟩
  have hb2' := hb1'.trans ((((Below.refl _ w1).alloc (Nat.le_refl _) _).trans hb2).mono hb1'.size)
  clear hb2 hA1 c0 c1 c2 c3 c4 c5 c6 HS
  go_wp2
  go_ret
  exact ⟨by rw [HE.out, h1, h2]; rfl, hb2'⟩

set_option maxRecDepth 100000 in
set_option maxHeartbeats 1000000 in
theorem needs_write (r : Req) (pd pl : Option Addr) (cd cl : Nat) (bn : Nat) (b : Bool) (w : World) (hn : w.heap[bn]? = some (.cells #[.bool b] 82 (0, 0))) (h : ReqAt w r pd cd pl cl) :
    Calls Try.prog 109 #[.pointer (some ⟨bn, 0, none⟩), reqV r pd cd pl cl] w fun e w' => (∃ v, e = .returned v) ∧ w'.cell? ⟨bn, 0, none⟩ = some (.bool (reqWordsB r)) ∧ Below bn w w' := by
  have hbl : ∀ o, Below w.heap.size w (w.alloc o) := fun o => (Below.refl _ w).alloc (Nat.le_refl _) o
  have hlt : bn < w.heap.size := (Array.getElem?_eq_some_iff.1 hn).1
  have HC := Hid.intro (fun o => itsWords_any r pd pl cd cl (w.alloc o) (h.below (hbl o)))
  clear h
  unfold reqV
  go_enter Try.func109, Try.ntmps109
  go_wp2_with fail
  refine (HC.out _).mono ?_
  rintro e w1 ⟨rfl, hb1⟩
  have hn1 : w1.heap[bn]? = some (.cells #[.bool b] 82 (0, 0)) := (hb1.block bn (by simp; omega)).trans ((Below.heap_alloc _ _ _ hlt).trans hn)
  have hc1 : w1.cell? ⟨bn, 0, none⟩ = some (.bool b) := (heap_cell hn1 0).trans rfl
  have hf1 := heap_free hn1 0
  have hbb : Below bn w w1 := ((hbl _).mono (by omega)).trans (hb1.mono (by simp; omega))
  clear hb1 hn hn1
  go_wp2
  go_returns
  refine ⟨⟨_, rfl⟩, ?_, hbb.setCell (p := ⟨bn, 0, none⟩) (Nat.le_refl _) _⟩
  exact World.cell?_setCell_same _ _ _ hc1

set_option maxRecDepth 100000 in
set_option maxHeartbeats 1000000 in
theorem show_write (r : Req) (pd pl : Option Addr) (cd cl : Nat) (bn : Nat) (b : Bool) (w : World) (hn : w.heap[bn]? = some (.cells #[.bool b] 82 (0, 0))) (h : ReqAt w r pd cd pl cl) :
    Calls Try.prog 102 #[reqV r pd cd pl cl, .iface 84 (.pointer (some ⟨bn, 0, none⟩))] w fun e w' => (∃ v, e = .returned v) ∧ w'.cell? ⟨bn, 0, none⟩ = some (.bool (reqWordsB r)) ∧ Below bn w w' := by
  have hbl : ∀ o, Below w.heap.size w (w.alloc o) := fun o => (Below.refl _ w).alloc (Nat.le_refl _) o
  have hlt : bn < w.heap.size := (Array.getElem?_eq_some_iff.1 hn).1
  have HC := Hid.intro (fun o => needs_write r pd pl cd cl bn b (w.alloc o) ((Below.heap_alloc _ _ _ hlt).trans hn) (h.below (hbl o)))
  clear h hn
  unfold reqV
  go_enter Try.func102, Try.ntmps102
  go_wp2_with fail
  refine (HC.out _).mono ?_
  rintro e w1 ⟨⟨v, rfl⟩, hc1, hb1⟩
  have hbb : Below bn w w1 := ((hbl _).mono (by omega)).trans hb1
  clear hb1
  go_wp2
  go_returns
  exact ⟨⟨_, rfl⟩, hc1, hbb⟩

theorem kind_write (r : Req) (pd pl : Option Addr) (cd cl : Nat) (w : World) (h : r.kind = 2) :
    Calls Try.prog 52 #[reqV r pd cd pl cl] w fun e w' => e = .returned (.tuple #[.iface 107 (reqV r pd cd pl cl), .bool true]) ∧ Below w.heap.size w w' := by
  have hbl : ∀ o, Below w.heap.size w (w.alloc o) := fun o => (Below.refl _ w).alloc (Nat.le_refl _) o
  unfold reqV
  rw [h]
  go_enter Try.func52, Try.ntmps52
  go_wp2
  go_returns
  exact ⟨rfl, hbl _⟩

theorem ok_write_eq (r : Req) (h : r.kind = 2) : reqOkB r = (inB r.id 0 1 && (adrOkB r.addr r.many r.wrap && (reqWordsB r))) := by
  have e2 : ∀ a b : Int, decide (a = b) = (a == b) := fun a b => by rw [Bool.eq_iff_iff]; simp
  unfold reqOkB reqHeadB reqOneB writesB
  rw [h]
  simp [inB, Bool.and_assoc]

set_option maxRecDepth 100000 in
set_option maxHeartbeats 1000000 in
theorem ok_write (r : Req) (pd pl : Option Addr) (cd cl : Nat) (w : World) (h : ReqAt w r pd cd pl cl) (hk : r.kind = 2) :
    Calls Try.prog 21 #[reqV r pd cd pl cl] w fun e w' => e = .returned (.bool (reqOkB r)) ∧ Below w.heap.size w w' := by
  have hbl : ∀ o, Below w.heap.size w (w.alloc o) := fun o => (Below.refl _ w).alloc (Nat.le_refl _) o
  have HE := Hid.intro (ok_write_eq r hk)
  have HK := Hid.intro (fun W => kind_write r pd pl cd cl W hk)
  have HS := Hid.intro (fun bn b W h1 h2 => show_write r pd pl cd cl bn b W h1 h2)
  have HA := Hid.intro h
  clear h hk
  obtain ⟨rv, hrv⟩ : ∃ rv, rv = reqV r pd cd pl cl := ⟨_, rfl⟩
  have HR := Hid.intro hrv
  unfold reqV at hrv
  clear hrv
  unfold reqV
  go_enter Try.func21, Try.ntmps21
  go_wp2_with fail
  refine (HK.out _).mono ?_
  rintro e w1 ⟨rfl, hb1⟩
  obtain ⟨c0, c1, c2, c3, c4, c5, c6⟩ := box7 hb1
  have hs1 := hb1.size
  simp at hs1
  have hb1' := (hbl _).trans (hb1.mono (hbl _).size)
  have hA1 := Hid.intro (HA.out.below hb1')
  clear hb1 HA HK
  cases h1 : inB r.id 0 1
  · go_wp2_with (go_at_call 53; refine (nameOk_any _ _).mono ?_; rintro e w' ⟨rfl, hw⟩; replace hw := hw.symm; subst hw)
    go_ret
    exact ⟨by rw [HE.out, h1]; rfl, hb1'⟩
  cases h2 : adrOkB r.addr r.many r.wrap
  · go_wp2_with (first | (go_at_call 53; refine (nameOk_any _ _).mono ?_; rintro e w' ⟨rfl, hw⟩; replace hw := hw.symm; subst hw) | (go_at_call 50; refine (impl_AdrOk _ _ _ _).mono ?_; rintro e w' ⟨rfl, hw⟩; replace hw := hw.symm; subst hw))
    go_ret
    exact ⟨by rw [HE.out, h1, h2]; rfl, hb1'⟩
  go_wp2_with (first | (go_at_call 53; refine (nameOk_any _ _).mono ?_; rintro e w' ⟨rfl, hw⟩; replace hw := hw.symm; subst hw) | (go_at_call 50; refine (impl_AdrOk _ _ _ _).mono ?_; rintro e w' ⟨rfl, hw⟩; replace hw := hw.symm; subst hw))
  refine (HS.out w1.heap.size false _ (heap_new _ _) (hA1.out.below ((Below.refl _ w1).alloc (Nat.le_refl _) _))).mono ?_
  rintro e w2 ⟨⟨v, rfl⟩, hc2, hb2⟩
  have hb2' := hb1'.trans ((((Below.refl _ w1).alloc (Nat.le_refl _) _).trans hb2).mono hb1'.size)
  clear hb2 hA1 c0 c1 c2 c3 c4 c5 c6 HS
  go_wp2
  go_ret
  exact ⟨by rw [HE.out, h1, h2]; rfl, hb2'⟩

set_option maxRecDepth 100000 in
set_option maxHeartbeats 1000000 in
theorem needs_hold (r : Req) (pd pl : Option Addr) (cd cl : Nat) (bn : Nat) (b : Bool) (w : World) (hn : w.heap[bn]? = some (.cells #[.bool b] 82 (0, 0))) (h : ReqAt w r pd cd pl cl) :
    Calls Try.prog 100 #[.pointer (some ⟨bn, 0, none⟩), reqV r pd cd pl cl] w fun e w' => (∃ v, e = .returned v) ∧ w'.cell? ⟨bn, 0, none⟩ = some (.bool (((r.many == 1) && reqNoneB r))) ∧ Below bn w w' := by
  have hbl : ∀ o, Below w.heap.size w (w.alloc o) := fun o => (Below.refl _ w).alloc (Nat.le_refl _) o
  have hlt : bn < w.heap.size := (Array.getElem?_eq_some_iff.1 hn).1
  have HC := Hid.intro (fun o => noWords_any r pd pl cd cl (w.alloc o))
  clear h
  unfold reqV
  cases d0 : (r.many == 1)
  · go_enter Try.func100, Try.ntmps100
    have hc1 : w.cell? ⟨bn, 0, none⟩ = some (.bool b) := (heap_cell hn 0).trans rfl
    have hf1 := heap_free hn 0
    go_wp2
    go_returns
    refine ⟨⟨_, rfl⟩, (heap_cell ((Below.heap_alloc _ _ _ (by simp; omega)).trans (heap_set hn 0 (.bool false))) 0).trans rfl, ((Below.refl bn w).setCell (p := ⟨bn, 0, none⟩) (Nat.le_refl _) _).alloc (by simp; omega) _⟩
  go_enter Try.func100, Try.ntmps100
  go_wp2_with fail
  refine (HC.out _).mono ?_
  rintro e w1 ⟨rfl, hb1⟩
  have hn1 : w1.heap[bn]? = some (.cells #[.bool b] 82 (0, 0)) := (hb1.block bn (by simp; omega)).trans ((Below.heap_alloc _ _ _ hlt).trans hn)
  have hc1 : w1.cell? ⟨bn, 0, none⟩ = some (.bool b) := (heap_cell hn1 0).trans rfl
  have hf1 := heap_free hn1 0
  have hbb : Below bn w w1 := ((hbl _).mono (by omega)).trans (hb1.mono (by simp; omega))
  clear hb1 hn hn1
  go_wp2
  go_returns
  refine ⟨⟨_, rfl⟩, ?_, hbb.setCell (p := ⟨bn, 0, none⟩) (Nat.le_refl _) _⟩
  exact World.cell?_setCell_same _ _ _ hc1

set_option maxRecDepth 100000 in
set_option maxHeartbeats 1000000 in
theorem show_hold (r : Req) (pd pl : Option Addr) (cd cl : Nat) (bn : Nat) (b : Bool) (w : World) (hn : w.heap[bn]? = some (.cells #[.bool b] 82 (0, 0))) (h : ReqAt w r pd cd pl cl) :
    Calls Try.prog 103 #[reqV r pd cd pl cl, .iface 84 (.pointer (some ⟨bn, 0, none⟩))] w fun e w' => (∃ v, e = .returned v) ∧ w'.cell? ⟨bn, 0, none⟩ = some (.bool (((r.many == 1) && reqNoneB r))) ∧ Below bn w w' := by
  have hbl : ∀ o, Below w.heap.size w (w.alloc o) := fun o => (Below.refl _ w).alloc (Nat.le_refl _) o
  have hlt : bn < w.heap.size := (Array.getElem?_eq_some_iff.1 hn).1
  have HC := Hid.intro (fun o => needs_hold r pd pl cd cl bn b (w.alloc o) ((Below.heap_alloc _ _ _ hlt).trans hn) (h.below (hbl o)))
  clear h hn
  unfold reqV
  go_enter Try.func103, Try.ntmps103
  go_wp2_with fail
  refine (HC.out _).mono ?_
  rintro e w1 ⟨⟨v, rfl⟩, hc1, hb1⟩
  have hbb : Below bn w w1 := ((hbl _).mono (by omega)).trans hb1
  clear hb1
  go_wp2
  go_returns
  exact ⟨⟨_, rfl⟩, hc1, hbb⟩

theorem kind_hold (r : Req) (pd pl : Option Addr) (cd cl : Nat) (w : World) (h : r.kind = 3) :
    Calls Try.prog 52 #[reqV r pd cd pl cl] w fun e w' => e = .returned (.tuple #[.iface 108 (reqV r pd cd pl cl), .bool true]) ∧ Below w.heap.size w w' := by
  have hbl : ∀ o, Below w.heap.size w (w.alloc o) := fun o => (Below.refl _ w).alloc (Nat.le_refl _) o
  unfold reqV
  rw [h]
  go_enter Try.func52, Try.ntmps52
  go_wp2
  go_returns
  exact ⟨rfl, hbl _⟩

theorem ok_hold_eq (r : Req) (h : r.kind = 3) : reqOkB r = (inB r.id 0 1 && (adrOkB r.addr r.many r.wrap && (((r.many == 1) && reqNoneB r)))) := by
  have e2 : ∀ a b : Int, decide (a = b) = (a == b) := fun a b => by rw [Bool.eq_iff_iff]; simp
  unfold reqOkB reqHeadB reqOneB writesB
  rw [h]
  simp [inB, Bool.and_assoc]; rw [e2]

set_option maxRecDepth 100000 in
set_option maxHeartbeats 1000000 in
theorem ok_hold (r : Req) (pd pl : Option Addr) (cd cl : Nat) (w : World) (h : ReqAt w r pd cd pl cl) (hk : r.kind = 3) :
    Calls Try.prog 21 #[reqV r pd cd pl cl] w fun e w' => e = .returned (.bool (reqOkB r)) ∧ Below w.heap.size w w' := by
  have hbl : ∀ o, Below w.heap.size w (w.alloc o) := fun o => (Below.refl _ w).alloc (Nat.le_refl _) o
  have HE := Hid.intro (ok_hold_eq r hk)
  have HK := Hid.intro (fun W => kind_hold r pd pl cd cl W hk)
  have HS := Hid.intro (fun bn b W h1 h2 => show_hold r pd pl cd cl bn b W h1 h2)
  have HA := Hid.intro h
  clear h hk
  obtain ⟨rv, hrv⟩ : ∃ rv, rv = reqV r pd cd pl cl := ⟨_, rfl⟩
  have HR := Hid.intro hrv
  unfold reqV at hrv
  clear hrv
  unfold reqV
  go_enter Try.func21, Try.ntmps21
  go_wp2_with fail
  refine (HK.out _).mono ?_
  rintro e w1 ⟨rfl, hb1⟩
  obtain ⟨c0, c1, c2, c3, c4, c5, c6⟩ := box7 hb1
  have hs1 := hb1.size
  simp at hs1
  have hb1' := (hbl _).trans (hb1.mono (hbl _).size)
  have hA1 := Hid.intro (HA.out.below hb1')
  clear hb1 HA HK
  cases h1 : inB r.id 0 1
  · go_wp2_with (go_at_call 53; refine (nameOk_any _ _).mono ?_; rintro e w' ⟨rfl, hw⟩; replace hw := hw.symm; subst hw)
    go_ret
    exact ⟨by rw [HE.out, h1]; rfl, hb1'⟩
  cases h2 : adrOkB r.addr r.many r.wrap
  · go_wp2_with (first | (go_at_call 53; refine (nameOk_any _ _).mono ?_; rintro e w' ⟨rfl, hw⟩; replace hw := hw.symm; subst hw) | (go_at_call 50; refine (impl_AdrOk _ _ _ _).mono ?_; rintro e w' ⟨rfl, hw⟩; replace hw := hw.symm; subst hw))
    go_ret
    exact ⟨by rw [HE.out, h1, h2]; rfl, hb1'⟩
  go_wp2_with (first | (go_at_call 53; refine (nameOk_any _ _).mono ?_; rintro e w' ⟨rfl, hw⟩; replace hw := hw.symm; subst hw) | (go_at_call 50; refine (impl_AdrOk _ _ _ _).mono ?_; rintro e w' ⟨rfl, hw⟩; replace hw := hw.symm; subst hw))
  refine (HS.out w1.heap.size false _ (heap_new _ _) (hA1.out.below ((Below.refl _ w1).alloc (Nat.le_refl _) _))).mono ?_
  rintro e w2 ⟨⟨v, rfl⟩, hc2, hb2⟩
  have hb2' := hb1'.trans ((((Below.refl _ w1).alloc (Nat.le_refl _) _).trans hb2).mono hb1'.size)
  clear hb2 hA1 c0 c1 c2 c3 c4 c5 c6 HS
  go_wp2
  go_ret
  exact ⟨by rw [HE.out, h1, h2]; rfl, hb2'⟩

set_option maxRecDepth 100000 in
set_option maxHeartbeats 1000000 in
theorem needs_try (r : Req) (pd pl : Option Addr) (cd cl : Nat) (bn : Nat) (b : Bool) (w : World) (hn : w.heap[bn]? = some (.cells #[.bool b] 82 (0, 0))) (h : ReqAt w r pd cd pl cl) :
    Calls Try.prog 108 #[.pointer (some ⟨bn, 0, none⟩), reqV r pd cd pl cl] w fun e w' => (∃ v, e = .returned v) ∧ w'.cell? ⟨bn, 0, none⟩ = some (.bool (((r.many == 1) && reqWordsB r))) ∧ Below bn w w' := by
  have hbl : ∀ o, Below w.heap.size w (w.alloc o) := fun o => (Below.refl _ w).alloc (Nat.le_refl _) o
  have hlt : bn < w.heap.size := (Array.getElem?_eq_some_iff.1 hn).1
  have HC := Hid.intro (fun o => itsWords_any r pd pl cd cl (w.alloc o) (h.below (hbl o)))
  clear h
  unfold reqV
  cases d0 : (r.many == 1)
  · go_enter Try.func108, Try.ntmps108
    have hc1 : w.cell? ⟨bn, 0, none⟩ = some (.bool b) := (heap_cell hn 0).trans rfl
    have hf1 := heap_free hn 0
    go_wp2
    go_returns
    refine ⟨⟨_, rfl⟩, (heap_cell ((Below.heap_alloc _ _ _ (by simp; omega)).trans (heap_set hn 0 (.bool false))) 0).trans rfl, ((Below.refl bn w).setCell (p := ⟨bn, 0, none⟩) (Nat.le_refl _) _).alloc (by simp; omega) _⟩
  go_enter Try.func108, Try.ntmps108
  go_wp2_with fail
  refine (HC.out _).mono ?_
  rintro e w1 ⟨rfl, hb1⟩
  have hn1 : w1.heap[bn]? = some (.cells #[.bool b] 82 (0, 0)) := (hb1.block bn (by simp; omega)).trans ((Below.heap_alloc _ _ _ hlt).trans hn)
  have hc1 : w1.cell? ⟨bn, 0, none⟩ = some (.bool b) := (heap_cell hn1 0).trans rfl
  have hf1 := heap_free hn1 0
  have hbb : Below bn w w1 := ((hbl _).mono (by omega)).trans (hb1.mono (by simp; omega))
  clear hb1 hn hn1
  go_wp2
  go_returns
  refine ⟨⟨_, rfl⟩, ?_, hbb.setCell (p := ⟨bn, 0, none⟩) (Nat.le_refl _) _⟩
  exact World.cell?_setCell_same _ _ _ hc1

set_option maxRecDepth 100000 in
set_option maxHeartbeats 1000000 in
theorem show_try (r : Req) (pd pl : Option Addr) (cd cl : Nat) (bn : Nat) (b : Bool) (w : World) (hn : w.heap[bn]? = some (.cells #[.bool b] 82 (0, 0))) (h : ReqAt w r pd cd pl cl) :
    Calls Try.prog 105 #[reqV r pd cd pl cl, .iface 84 (.pointer (some ⟨bn, 0, none⟩))] w fun e w' => (∃ v, e = .returned v) ∧ w'.cell? ⟨bn, 0, none⟩ = some (.bool (((r.many == 1) && reqWordsB r))) ∧ Below bn w w' := by
  have hbl : ∀ o, Below w.heap.size w (w.alloc o) := fun o => (Below.refl _ w).alloc (Nat.le_refl _) o
  have hlt : bn < w.heap.size := (Array.getElem?_eq_some_iff.1 hn).1
  have HC := Hid.intro (fun o => needs_try r pd pl cd cl bn b (w.alloc o) ((Below.heap_alloc _ _ _ hlt).trans hn) (h.below (hbl o)))
  clear h hn
  unfold reqV
  go_enter Try.func105, Try.ntmps105
  go_wp2_with fail
  refine (HC.out _).mono ?_
  rintro e w1 ⟨⟨v, rfl⟩, hc1, hb1⟩
  have hbb : Below bn w w1 := ((hbl _).mono (by omega)).trans hb1
  clear hb1
  go_wp2
  go_returns
  exact ⟨⟨_, rfl⟩, hc1, hbb⟩

theorem kind_try (r : Req) (pd pl : Option Addr) (cd cl : Nat) (w : World) (h : r.kind = 4) :
    Calls Try.prog 52 #[reqV r pd cd pl cl] w fun e w' => e = .returned (.tuple #[.iface 109 (reqV r pd cd pl cl), .bool true]) ∧ Below w.heap.size w w' := by
  have hbl : ∀ o, Below w.heap.size w (w.alloc o) := fun o => (Below.refl _ w).alloc (Nat.le_refl _) o
  unfold reqV
  rw [h]
  go_enter Try.func52, Try.ntmps52
  go_wp2
  go_returns
  exact ⟨rfl, hbl _⟩

theorem ok_try_eq (r : Req) (h : r.kind = 4) : reqOkB r = (inB r.id 0 1 && (adrOkB r.addr r.many r.wrap && (((r.many == 1) && reqWordsB r)))) := by
  have e2 : ∀ a b : Int, decide (a = b) = (a == b) := fun a b => by rw [Bool.eq_iff_iff]; simp
  unfold reqOkB reqHeadB reqOneB writesB
  rw [h]
  simp [inB, Bool.and_assoc]; rw [e2]

set_option maxRecDepth 100000 in
set_option maxHeartbeats 1000000 in
theorem ok_try (r : Req) (pd pl : Option Addr) (cd cl : Nat) (w : World) (h : ReqAt w r pd cd pl cl) (hk : r.kind = 4) :
    Calls Try.prog 21 #[reqV r pd cd pl cl] w fun e w' => e = .returned (.bool (reqOkB r)) ∧ Below w.heap.size w w' := by
  have hbl : ∀ o, Below w.heap.size w (w.alloc o) := fun o => (Below.refl _ w).alloc (Nat.le_refl _) o
  have HE := Hid.intro (ok_try_eq r hk)
  have HK := Hid.intro (fun W => kind_try r pd pl cd cl W hk)
  have HS := Hid.intro (fun bn b W h1 h2 => show_try r pd pl cd cl bn b W h1 h2)
  have HA := Hid.intro h
  clear h hk
  obtain ⟨rv, hrv⟩ : ∃ rv, rv = reqV r pd cd pl cl := ⟨_, rfl⟩
  have HR := Hid.intro hrv
  unfold reqV at hrv
  clear hrv
  unfold reqV
  go_enter Try.func21, Try.ntmps21
  go_wp2_with fail
  refine (HK.out _).mono ?_
  rintro e w1 ⟨rfl, hb1⟩
  obtain ⟨c0, c1, c2, c3, c4, c5, c6⟩ := box7 hb1
  have hs1 := hb1.size
  simp at hs1
  have hb1' := (hbl _).trans (hb1.mono (hbl _).size)
  have hA1 := Hid.intro (HA.out.below hb1')
  clear hb1 HA HK
  cases h1 : inB r.id 0 1
  · go_wp2_with (go_at_call 53; refine (nameOk_any _ _).mono ?_; rintro e w' ⟨rfl, hw⟩; replace hw := hw.symm; subst hw)
    go_ret
    exact ⟨by rw [HE.out, h1]; rfl, hb1'⟩
  cases h2 : adrOkB r.addr r.many r.wrap
  · go_wp2_with (first | (go_at_call 53; refine (nameOk_any _ _).mono ?_; rintro e w' ⟨rfl, hw⟩; replace hw := hw.symm; subst hw) | (go_at_call 50; refine (impl_AdrOk _ _ _ _).mono ?_; rintro e w' ⟨rfl, hw⟩; replace hw := hw.symm; subst hw))
    go_ret
    exact ⟨by rw [HE.out, h1, h2]; rfl, hb1'⟩
  go_wp2_with (first | (go_at_call 53; refine (nameOk_any _ _).mono ?_; rintro e w' ⟨rfl, hw⟩; replace hw := hw.symm; subst hw) | (go_at_call 50; refine (impl_AdrOk _ _ _ _).mono ?_; rintro e w' ⟨rfl, hw⟩; replace hw := hw.symm; subst hw))
  refine (HS.out w1.heap.size false _ (heap_new _ _) (hA1.out.below ((Below.refl _ w1).alloc (Nat.le_refl _) _))).mono ?_
  rintro e w2 ⟨⟨v, rfl⟩, hc2, hb2⟩
  have hb2' := hb1'.trans ((((Below.refl _ w1).alloc (Nat.le_refl _) _).trans hb2).mono hb1'.size)
  clear hb2 hA1 c0 c1 c2 c3 c4 c5 c6 HS
  go_wp2
  go_ret
  exact ⟨by rw [HE.out, h1, h2]; rfl, hb2'⟩

theorem kind_no (r : Req) (pd pl : Option Addr) (cd cl : Nat) (w : World) (h1 : (r.kind == 1) = false) (h2 : (r.kind == 2) = false) (h3 : (r.kind == 3) = false) (h4 : (r.kind == 4) = false) :
    Calls Try.prog 52 #[reqV r pd cd pl cl] w fun e w' => e = .returned (.tuple #[.nilIface, .bool false]) ∧ Below w.heap.size w w' := by
  have hbl : ∀ o, Below w.heap.size w (w.alloc o) := fun o => (Below.refl _ w).alloc (Nat.le_refl _) o
  unfold reqV
  go_enter Try.func52, Try.ntmps52
  go_wp2
  go_returns
  exact ⟨rfl, hbl _⟩

theorem no_eq (r : Req) (h1 : (r.kind == 1) = false) (h2 : (r.kind == 2) = false) (h3 : (r.kind == 3) = false) (h4 : (r.kind == 4) = false) : reqOkB r = false := by
  have : inB r.kind 1 4 = false := inB_f (by simp at h1 h2 h3 h4; omega)
  simp [reqOkB, reqHeadB, this]

theorem impl_ReqOk : ReqOkC := by
  intro r pd pl cd cl w h
  cases h1 : (r.kind == 1)
  · cases h2 : (r.kind == 2)
    · cases h3 : (r.kind == 3)
      · cases h4 : (r.kind == 4)
        · have hbl : ∀ o, Below w.heap.size w (w.alloc o) := fun o => (Below.refl _ w).alloc (Nat.le_refl _) o
          have HE := Hid.intro (no_eq r h1 h2 h3 h4)
          have HK := Hid.intro (fun W => kind_no r pd pl cd cl W h1 h2 h3 h4)
          clear h h1 h2 h3 h4
          unfold reqV
          go_enter Try.func21, Try.ntmps21
          go_wp2_with fail
          refine (HK.out _).mono ?_
          rintro e w1 ⟨rfl, hb1⟩
          have hb1' := (hbl _).trans (hb1.mono (hbl _).size)
          clear hb1
          go_wp2
          go_ret
          exact ⟨by rw [HE.out]; rfl, hb1'⟩
        · exact ok_try r pd pl cd cl w h (by simpa using h4)
      · exact ok_hold r pd pl cd cl w h (by simpa using h3)
    · exact ok_write r pd pl cd cl w h (by simpa using h2)
  · exact ok_read r pd pl cd cl w h (by simpa using h1)

end Go.Proofs.Ytdjmjdljgdagcaa
