/-
  The program's iterators over addresses, told to a body that may leave: inRow.
-/
import Derived.Test.YtdjmjdljgdagcaaRFunS
import Derived.Test.YtdjmjdljgdagcaaItRow
import Derived.Test.YtdjmjdljgdagcaaIRow
namespace Go.Proofs.Ytdjmjdljgdagcaa
open Go.RowKit Go.Shelf
set_option linter.unusedSimpArgs false
set_option linter.unusedVariables false
attribute [local go_sem] Oper.semAt_some

theorem any_at {α : Type} {stop : α → Bool} {pre : List α} {x : α} {xs : List α} (hp : pre ++ [x] <+: xs) (hs : stop x = true) : xs.any stop = true := by
  obtain ⟨t, rfl⟩ := hp
  simp [hs]

set_option maxRecDepth 100000 in
set_option maxHeartbeats 1000000 in
theorem inRow1_st (a : Int) (n ba bm : Nat) (ha : 0 ≤ a) (ha2 : a ≤ 63) (hn : 1 ≤ n) (hn4 : n ≤ 4) :
    ItSt Try.prog 84 #[.pointer (some ⟨bm, 0, none⟩), .pointer (some ⟨ba, 0, none⟩)] (Value.int .i64)
      (fun W => W.cell? ⟨ba, 0, none⟩ = some (.int .i64 a) ∧ W.cell? ⟨bm, 0, none⟩ = some (.int .i64 n)) (fun k => k = ba ∨ k = bm) (rowL a n) := by
  intro D l stop J S W hD hCB hcap hJ hS hY h0 n'
  obtain ⟨hca, hcm⟩ := hcap
  refine callsIn_of_wp Try.func84 rfl trivial ?_ rfl
  simp only [Try.ntmps84, List.size_toArray, List.length_cons, List.length_nil, Nat.reduceAdd, Nat.reduceSub, Array.replicate_succ, Array.replicate_zero, List.push_toArray, List.append_toArray, List.nil_append, List.cons_append]
  gi_wp2
  gi_loopw [6] (fun i wr => ∃ (k : Nat), k ≤ n ∧ i = .int .i64 k ∧ J (rowL a k) wr ∧ Kept D W wr ∧ Hid ((rowL a k).any stop = false))
    (fun i wr => n - (intOf i).toNat)
  case atStart => exact ⟨0, Nat.zero_le _, rfl, h0, Kept.refl _ _, rfl⟩
  case round =>
    obtain ⟨k, hk, rfl, hj, hkp, HA⟩ := hrel
    have hca' : wr.cell? ⟨ba, 0, none⟩ = some (.int .i64 a) := (hkp.cell (p := ⟨ba, 0, none⟩) (hCB ba (.inl rfl)).2 (hCB ba (.inl rfl)).1).trans hca
    by_cases hlt : k < n
    · have hkI : (k : Int) < (n : Int) := by omega
      have hsp := rowL_split (a := a) hlt
      obtain ⟨fn, tmps, assign, body, hy, hR⟩ := hY (rowL a k) (a + (k : Int)) wr (n' - 1) hj hsp
      cases hst : stop (a + (k : Int))
      · have HN : Hid ((rowL a (k + 1)).any stop = false) := Hid.intro (by rw [← rowL_succ, List.any_append, HA.out]; simp [hst])
        rw [hst] at hR
        gi_wp2
        refine ⟨fun h => (by cases h), hR.mono ?_⟩
        rintro e W3 ⟨rfl, hJ3, hk3⟩
        replace hJ3 := hJ3.1 trivial
        gi_wp2
        go_roundw
        case rel => exact ⟨k + 1, by omega, by go_num, by rw [← rowL_succ]; exact hJ3, hkp.trans hk3, HN⟩
        case measure => simp [intOf]; omega
      · have HN := Hid.intro (any_at hsp hst)
        rw [hst] at hR
        gi_wp2
        refine ⟨fun h => (by cases h), hR.mono ?_⟩
        rintro e W3 ⟨rfl, hJ3, hk3⟩
        gi_wp2
        refine bodyPost_ret (results_none rfl _ _ _) rfl ?_
        exact ⟨⟨_, rfl⟩, ⟨fun h => (by rw [HN.out] at h; cases h), fun _ => hJ3.2 trivial⟩, hkp.trans hk3⟩
    · have hk' : k = n := by omega
      subst hk'
      gi_wp2
      go_end0
      exact ⟨⟨_, rfl⟩, ⟨fun _ => hj, fun h => (by rw [HA.out] at h; cases h)⟩, hkp⟩

end Go.Proofs.Ytdjmjdljgdagcaa
