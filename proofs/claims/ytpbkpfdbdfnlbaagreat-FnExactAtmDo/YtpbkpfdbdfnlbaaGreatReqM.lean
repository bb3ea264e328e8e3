/-
  The laws' own values of what is asked: their size, a copy, whether two are the same.
-/
import Derived.Test.YtpbkpfdbdfnlbaaGreatProg
import Derived.Test.YtpbkpfdbdfnlbaaGreatReq
import Derived.Test.YtpbkpfdbdfnlbaaGreatToInts
import Derived.Test.YtpbkpfdbdfnlbaaGreatPInt
namespace Go.Proofs.YtpbkpfdbdfnlbaaGreat
open Go.RowKit
set_option linter.unusedSimpArgs false
set_option linter.unusedVariables false

/-- what is left of a size -/
def szZ (left : Int) (d l : Nat) : Int := if (d : Int) + l ≤ left then left - d - l else -1
theorem szZ_yes {left : Int} {d l : Nat} (h : (d : Int) + l ≤ left) : szZ left d l = left - d - l := by simp [szZ, h]
theorem szZ_no {left : Int} {d l : Nat} (h : ¬ (d : Int) + l ≤ left) : szZ left d l = -1 := by simp [szZ, h]

set_option maxRecDepth 100000 in
theorem szReq_any (r : Req) (pd pl : Option Addr) (cd cl : Nat) (left : Int) (w : World) (h1 : r.data.length ≤ 9223372036854775807) (h2 : r.lanes.length ≤ 9223372036854775807) (h0 : 0 ≤ left) (hl : left ≤ 1048576) :
    Calls Tryz.prog 7 #[reqV r pd cd pl cl, .int .i64 left] w fun e w' => e = .returned (.int .i64 (szZ left r.data.length r.lanes.length)) ∧ Below w.heap.size w w' := by
  have hbl : ∀ o, Below w.heap.size w (w.alloc o) := fun o => (Below.refl _ w).alloc (Nat.le_refl _) o
  unfold reqV
  by_cases hd : (r.data.length : Int) ≤ left
  · have hI : ¬ (left - (r.data.length : Int) < 0) := by omega
    by_cases hl' : (r.lanes.length : Int) ≤ left - r.data.length
    · have HN := Hid.intro (szZ_yes (left := left) (d := r.data.length) (l := r.lanes.length) (by omega))
      have hI2 : ¬ (left - (r.data.length : Int) - (r.lanes.length : Int) < 0) := by omega
      go_enter Tryz.func7, Tryz.ntmps7
      go_wp2_with fail
      refine (szInts_any pd r.data.length cd left _ h1 h0 hl).mono ?_
      rintro e w1 ⟨rfl, rfl⟩
      rw [if_pos hd]
      go_wp2_with fail
      refine (szInts_any pl r.lanes.length cl _ _ h2 (by omega) (by omega)).mono ?_
      rintro e w1 ⟨rfl, rfl⟩
      rw [if_pos hl']
      go_wp2
      go_ret
      exact ⟨by rw [HN.out]; rfl, hbl _⟩
    · have HN := Hid.intro (szZ_no (left := left) (d := r.data.length) (l := r.lanes.length) (by omega))
      go_enter Tryz.func7, Tryz.ntmps7
      go_wp2_with fail
      refine (szInts_any pd r.data.length cd left _ h1 h0 hl).mono ?_
      rintro e w1 ⟨rfl, rfl⟩
      rw [if_pos hd]
      go_wp2_with fail
      refine (szInts_any pl r.lanes.length cl _ _ h2 (by omega) (by omega)).mono ?_
      rintro e w1 ⟨rfl, rfl⟩
      rw [if_neg (show ¬ ((r.lanes.length : Int) ≤ left - r.data.length) by omega)]
      go_wp2
      go_ret
      exact ⟨by rw [HN.out]; rfl, hbl _⟩
  · have HN := Hid.intro (szZ_no (left := left) (d := r.data.length) (l := r.lanes.length) (by omega))
    go_enter Tryz.func7, Tryz.ntmps7
    go_wp2_with fail
    refine (szInts_any pd r.data.length cd left _ h1 h0 hl).mono ?_
    rintro e w1 ⟨rfl, rfl⟩
    rw [if_neg (show ¬ ((r.data.length : Int) ≤ left) by omega)]
    go_wp2
    go_ret
    exact ⟨by rw [HN.out]; rfl, hbl _⟩

theorem box7' {w w1 : World} {n : Nat} {v0 v1 v2 v3 v4 v5 v6 : Value} {t : TypeId} (h : w1.heap[n]? = some (.cells #[v0, v1, v2, v3, v4, v5, v6] t (0, 0))) :
    w1.cell? ⟨n, 0, none⟩ = some v0 ∧ w1.cell? ⟨n, 1, none⟩ = some v1 ∧ w1.cell? ⟨n, 2, none⟩ = some v2 ∧ w1.cell? ⟨n, 3, none⟩ = some v3 ∧ w1.cell? ⟨n, 4, none⟩ = some v4 ∧ w1.cell? ⟨n, 5, none⟩ = some v5 ∧ w1.cell? ⟨n, 6, none⟩ = some v6 :=
  ⟨heap_cell h 0, heap_cell h 1, heap_cell h 2, heap_cell h 3, heap_cell h 4, heap_cell h 5, heap_cell h 6⟩

set_option maxRecDepth 100000 in
set_option maxHeartbeats 1000000 in
theorem eqReq_same (r : Req) (pd pl qd ql : Option Addr) (cd cl ed el : Nat) (w : World) (h : ReqAt w r pd cd pl cl) (k : ReqAt w r qd ed ql el) :
    Calls Tryz.prog 16 #[reqV r pd cd pl cl, reqV r qd ed ql el] w fun e w' => e = .returned (.bool true) ∧ Below w.heap.size w w' := by
  have hbl : ∀ o o', Below w.heap.size w ((w.alloc o).alloc o') := fun o o' => ((Below.refl _ w).alloc (Nat.le_refl _) o).alloc (by simp) o'
  have HA := Hid.intro (fun o o' => h.below (hbl o o'))
  have HK := Hid.intro (fun o o' => k.below (hbl o o'))
  clear h k
  unfold reqV
  go_enter Tryz.func16, Tryz.ntmps16
  go_wp2_with fail
  have hA := HA.out (.cells #[.int .i64 r.id, .int .i64 r.kind, .int .i64 r.addr, .int .i64 r.many, .bool r.wrap, (.slice pd r.data.length cd), (.slice pl r.lanes.length cl)] 43) (.cells #[.int .i64 r.id, .int .i64 r.kind, .int .i64 r.addr, .int .i64 r.many, .bool r.wrap, (.slice qd r.data.length ed), (.slice ql r.lanes.length el)] 43)
  have hK := HK.out (.cells #[.int .i64 r.id, .int .i64 r.kind, .int .i64 r.addr, .int .i64 r.many, .bool r.wrap, (.slice pd r.data.length cd), (.slice pl r.lanes.length cl)] 43) (.cells #[.int .i64 r.id, .int .i64 r.kind, .int .i64 r.addr, .int .i64 r.many, .bool r.wrap, (.slice qd r.data.length ed), (.slice ql r.lanes.length el)] 43)
  refine (eqIntS_same pd qd cd ed r.data _ hA.data hK.data hA.cd1 hA.cd2 hK.cd1 hK.cd2).mono ?_
  rintro e w1 ⟨rfl, hb1⟩
  have hs1 := hb1.size
  simp at hs1
  have c6 : w1.cell? ⟨w.heap.size, 6, none⟩ = some (.slice pl r.lanes.length cl) := (hb1.cell (p := ⟨w.heap.size, 6, none⟩) (by simp; omega)).trans ((World.cell?_alloc_past _ _ _ (by simp)).trans ((World.cell?_alloc_at _ _ _ _ rfl).trans rfl))
  have d6 : w1.cell? ⟨w.heap.size + 1, 6, none⟩ = some (.slice ql r.lanes.length el) := (hb1.cell (p := ⟨w.heap.size + 1, 6, none⟩) (by simp)).trans ((World.cell?_alloc_at _ _ _ _ (by simp)).trans rfl)
  have hA1 := hA.below hb1
  have hK1 := hK.below hb1
  have hb1' := (hbl _ _).trans (hb1.mono (hbl _ _).size)
  clear hb1 hA hK HA HK
  go_wp2_with fail
  refine (eqIntS_same pl ql cl el r.lanes w1 hA1.lanes hK1.lanes hA1.cl1 hA1.cl2 hK1.cl1 hK1.cl2).mono ?_
  rintro e w2 ⟨rfl, hb2⟩
  have hb2' := hb1'.trans (hb2.mono hb1'.size)
  clear hb2 hA1 hK1
  go_wp2
  go_ret
  exact ⟨rfl, hb2'⟩

end Go.Proofs.YtpbkpfdbdfnlbaaGreat
