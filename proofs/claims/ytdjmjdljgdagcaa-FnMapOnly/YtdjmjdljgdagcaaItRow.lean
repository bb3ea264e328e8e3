/-
  The program's iterators over addresses: inRow, roundAbout, burst.
-/
import Derived.Test.YtdjmjdljgdagcaaRFun
import Derived.Test.YtdjmjdljgdagcaaAdr
namespace Go.Proofs.Ytdjmjdljgdagcaa
open Go.RowKit Go.Shelf
set_option linter.unusedSimpArgs false
set_option linter.unusedVariables false
attribute [local go_sem] Oper.semAt_some

def rowL (a : Int) (n : Nat) : List Int := (List.range n).map (fun k : Nat => a + (k : Int))
theorem rowL_split {a : Int} {n k : Nat} (h : k < n) : rowL a k ++ [a + (k : Int)] <+: rowL a n := by
  have e : rowL a k ++ [a + (k : Int)] = rowL a (k + 1) := by simp [rowL, List.range_succ]
  rw [e]
  unfold rowL
  exact (List.IsPrefix.map _ ⟨_, show List.range (k + 1) ++ (List.range (n - (k+1))).map (fun i => k + 1 + i) = List.range n by
    rw [← List.range_add]; congr 1; omega⟩)
theorem rowL_succ (a : Int) (k : Nat) : rowL a k ++ [a + (k : Int)] = rowL a (k + 1) := by simp [rowL, List.range_succ]

set_option maxRecDepth 100000 in
set_option maxHeartbeats 1000000 in
theorem inRow1_it (a : Int) (n ba bm : Nat) (ha : 0 ≤ a) (ha2 : a ≤ 63) (hn : 1 ≤ n) (hn4 : n ≤ 4) :
    ItOk Try.prog 84 #[.pointer (some ⟨bm, 0, none⟩), .pointer (some ⟨ba, 0, none⟩)] (Value.int .i64)
      (fun W => W.cell? ⟨ba, 0, none⟩ = some (.int .i64 a) ∧ W.cell? ⟨bm, 0, none⟩ = some (.int .i64 n)) (fun k => k = ba ∨ k = bm) (rowL a n) := by
  intro D l J W hD hCB hcap hJ hY h0 n'
  obtain ⟨hca, hcm⟩ := hcap
  refine callsIn_of_wp Try.func84 rfl trivial ?_ rfl
  simp only [Try.ntmps84, List.size_toArray, List.length_cons, List.length_nil, Nat.reduceAdd, Nat.reduceSub, Array.replicate_succ, Array.replicate_zero, List.push_toArray, List.append_toArray, List.nil_append, List.cons_append]
  gi_wp2
  gi_loopw [6] (fun i wr => ∃ (k : Nat), k ≤ n ∧ i = .int .i64 k ∧ J (rowL a k) wr ∧ Kept D W wr)
    (fun i wr => n - (intOf i).toNat)
  case atStart => exact ⟨0, Nat.zero_le _, rfl, h0, Kept.refl _ _⟩
  case round =>
    obtain ⟨k, hk, rfl, hj, hkp⟩ := hrel
    have hca' : wr.cell? ⟨ba, 0, none⟩ = some (.int .i64 a) := (hkp.cell (p := ⟨ba, 0, none⟩) (hCB ba (.inl rfl)).2 (hCB ba (.inl rfl)).1).trans hca
    by_cases hlt : k < n
    · have hkI : (k : Int) < (n : Int) := by omega
      obtain ⟨fn, tmps, assign, body, hy, hR⟩ := hY (rowL a k) (a + (k : Int)) wr (n' - 1) hj (rowL_split hlt)
      gi_wp2
      refine ⟨fun h => (by cases h), hR.mono ?_⟩
      rintro e W3 ⟨rfl, hJ3, hk3⟩
      gi_wp2
      go_roundw
      case rel => exact ⟨k + 1, by omega, by go_num, by rw [← rowL_succ]; exact hJ3, hkp.trans hk3⟩
      case measure => simp [intOf]; omega
    · have hk' : k = n := by omega
      subst hk'
      gi_wp2
      go_end0
      exact ⟨⟨_, rfl⟩, hj, hkp⟩

theorem block_any (a : Int) (n : Nat) (w : World) (ha : 0 ≤ a) (ha2 : a ≤ 63) (hn : 1 ≤ n) (hn4 : n ≤ 4) :
    Calls Try.prog 83 #[.int .i64 a, .int .i64 n] w fun e w' => e = .returned (.int .i64 (a - a % (n : Int))) ∧ w' = w := by
  have q1 : (0 : Int) ≤ a % (n : Int) := Int.emod_nonneg _ (by omega)
  have q2 : a % (n : Int) < (n : Int) := Int.emod_lt_of_pos _ (by omega)
  go_enter Try.func83, Try.ntmps83
  go_wp2
  go_ret
  exact ⟨rfl, rfl⟩

theorem inRow_any (a : Int) (n : Int) (w : World) :
    Calls Try.prog 81 #[.int .i64 a, .int .i64 n] w fun e w' => e = .returned (.func (.func 84) #[] #[.pointer (some ⟨w.heap.size + 1, 0, none⟩), .pointer (some ⟨w.heap.size, 0, none⟩)]) ∧ w' = (w.alloc (.cells #[.int .i64 a] 92)).alloc (.cells #[.int .i64 n] 3) := by
  go_enter Try.func81, Try.ntmps81
  go_wp2
  go_ret
  exact ⟨rfl, rfl⟩

theorem roundAbout_any (a : Int) (n : Int) (w : World) :
    Calls Try.prog 80 #[.int .i64 a, .int .i64 n] w fun e w' => e = .returned (.func (.func 82) #[] #[.pointer (some ⟨w.heap.size, 0, none⟩), .pointer (some ⟨w.heap.size + 1, 0, none⟩)]) ∧ w' = (w.alloc (.cells #[.int .i64 a] 92)).alloc (.cells #[.int .i64 n] 3) := by
  go_enter Try.func80, Try.ntmps80
  go_wp2
  go_ret
  exact ⟨rfl, rfl⟩

/-- what burst hands back -/
def itV (b : Nat) : Bool → Value
  | true => .func (.func 82) #[] #[.pointer (some ⟨b, 0, none⟩), .pointer (some ⟨b + 1, 0, none⟩)]
  | false => .func (.func 84) #[] #[.pointer (some ⟨b + 1, 0, none⟩), .pointer (some ⟨b, 0, none⟩)]

theorem burst_any (a : Int) (n : Int) (wrap : Bool) (w : World) :
    Calls Try.prog 61 #[.int .i64 a, .int .i64 n, .bool wrap] w fun e w' => e = .returned (itV w.heap.size wrap) ∧ w' = (w.alloc (.cells #[.int .i64 a] 92)).alloc (.cells #[.int .i64 n] 3) := by
  cases wrap
  · go_enter Try.func61, Try.ntmps61
    go_wp2_with (go_at_call 81; refine (inRow_any _ _ _).mono ?_; rintro e w' ⟨rfl, rfl⟩)
    go_ret
    exact ⟨rfl, rfl⟩
  · go_enter Try.func61, Try.ntmps61
    go_wp2_with (go_at_call 80; refine (roundAbout_any _ _ _).mono ?_; rintro e w' ⟨rfl, rfl⟩)
    go_ret
    exact ⟨rfl, rfl⟩

end Go.Proofs.Ytdjmjdljgdagcaa
