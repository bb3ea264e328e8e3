/-
  Proved: to hold and to try is to swap. At every two codes (rows of bytes of any length) the law answers true and leaves its arguments as they were. No condition.
-/
import Derived.Test.YtcjlmdjiddadfaaProg
import Derived.Test.YtcjlmdjiddadfaaCrOkM
import Derived.Test.YtcjlmdjiddadfaaSpcH
import Derived.Test.YtcjlmdjiddadfaaTryP
import Derived.Test.YtcjlmdjiddadfaaReq
import Derived.Test.YtcjlmdjiddadfaaSpcA
import Derived.BigQuiet
import Derived.Test.YtcjlmdjiddadfaaRows
import Derived.Test.YtcjlmdjiddadfaaLawB
import Derived.Test.YtcjlmdjiddadfaaImpKM
/-
  The law FnAtmTry, walked, by what AtmDo of the program answers.
-/
namespace Go.Proofs.Ytcjlmdjiddadfaa
open Go.RowKit
set_option linter.unusedSimpArgs false
set_option linter.unusedVariables false

theorem who_next {who : Int} (h0 : 0 ≤ who) (h1 : who ≤ 2) : inB ((who + 1).tmod 3) 0 2 = true := by
  have : who = 0 ∨ who = 1 ∨ who = 2 := by omega
  rcases this with rfl | rfl | rfl <;> decide

theorem calls_gen {P : Program} {F : Nat} {args : Array Value} {W : World} {Q : Ending → World → Prop} (R : World → Prop) (hR : R W) (h : ∀ W', R W' → Calls P F args W' Q) : Calls P F args W Q := h W hR
theorem ints1 {w : World} {b : Nat} {v : Int} (h : w.heap[b]? = some (.cells #[.int .i64 v] 3 (0, 0))) : IntsAt w (some ⟨b, 0, none⟩) [v] :=
  .inr ⟨b, 0, rfl, heap_lt h, fun k hk => by
    have : k = 0 := by simp at hk; omega
    subst this
    exact heap_cell h 0⟩
theorem row1 {w : World} {b : Nat} (h : w.heap[b]? = some (.cells #[.int .i64 0, .int .i64 63, .int .i64 0, .bool false] 49 (0, 0))) : RowOf w (some ⟨b, 0, none⟩) ms1 :=
  .inr ⟨b, 0, rfl, heap_lt h, fun k hk => by
    have : k = 0 := by simp [ms1] at hk; omega
    subst this
    exact ⟨heap_cell h 0, heap_cell h 1, heap_cell h 2, heap_cell h 3⟩⟩

set_option maxRecDepth 100000 in
set_option maxHeartbeats 8000000 in
theorem walkC_FnAtmTry (hI : AtmDoC) (a : Option Addr) (len cap : Nat) (a' : Option Addr) (len' cap' : Nat) (w : World) (hc : len ≤ cap) (hm : cap ≤ 9223372036854775807) (h : Bytes w w.heap.size a len) (hc' : len' ≤ cap') (hm' : cap' ≤ 9223372036854775807) (h' : Bytes w w.heap.size a' len') :
    Calls Try.prog 6 #[.slice a len cap, .slice a' len' cap'] w fun e w' => e = .returned (.bool true) ∧ Below w.heap.size w w' := by
  by_cases hl : 1048576 < len
  · have hI1 : (1048576 : Int) < (len : Int) := by omega
    clear h h' hI
    go_enter Try.func6, Try.ntmps6
    go_wp2
    go_ret
    exact ⟨rfl, Below.refl _ _⟩
  have hI1 : ¬ (1048576 : Int) < (len : Int) := by omega
  by_cases hl' : 1048576 < len'
  · have hI2 : (1048576 : Int) < (len' : Int) := by omega
    clear h h' hI
    go_enter Try.func6, Try.ntmps6
    go_wp2
    go_ret
    exact ⟨rfl, Below.refl _ _⟩
  have hI2 : ¬ (1048576 : Int) < (len' : Int) := by omega
  have HBy := Hid.intro h
  have HC := Hid.intro hI
  clear h h' hI
  go_enter Try.func6, Try.ntmps6
  go_wp2_with fail
  refine (drawAtmDo_any a len cap w hc hm HBy.out).mono ?_
  rintro e w1 ⟨b, c, ms, s, bw, ow, cw, bh, oh, ch, who0, r, pd, cd, pl, cl, rfl, _, _, _, _, _, hS, y1, y2, hR, z1, z2, hB1⟩
  clear HBy
  have HS1 := Hid.intro hS
  have HR1 := Hid.intro hR
  clear hS hR
  unfold stV reqV
  go_wp2_with fail
  refine (spec_AtmOk s _ _ cw ch _ (HS1.out.below (below_two _ _ _))).mono ?_
  rintro e w2 ⟨rfl, hb2⟩
  have hg2 : Below w1.heap.size w1 w2 := Below.trans (below_two w1 _ _) (hb2.mono (by simp; omega))
  have hs2 := hb2.size
  simp only [World.size_alloc] at hs2
  have HS2 := Hid.intro (HS1.out.below hg2)
  have HR2 := Hid.intro (HR1.out.below hg2)
  have hB2 := hB1.trans (hg2.mono hB1.size)
  have bS : w2.heap[w1.heap.size]? = some (.cells #[.slice (some ⟨bw, ow, none⟩) s.words.length cw, .slice (some ⟨bh, oh, none⟩) s.holds.length ch] 28 (0, 0)) := (hb2.block _ (by simp; omega)).trans (two_at0 _ _ _)
  obtain ⟨S, eS⟩ : ∃ v, v = w1.heap.size := ⟨_, rfl⟩
  have bQ : w2.heap[w1.heap.size + 1]? = some (.cells #[.int .i64 r.id, .int .i64 r.kind, .int .i64 r.addr, .int .i64 r.many, .bool r.wrap, .slice pd r.data.length cd, .slice pl r.lanes.length cl] 30 (0, 0)) := (hb2.block _ (by simp)).trans (two_at1 _ _ _)
  obtain ⟨Q, eQ⟩ : ∃ v, v = w1.heap.size + 1 := ⟨_, rfl⟩
  rw [← eQ] at bQ ⊢
  rw [← eS] at bS ⊢
  have lS2 : S < w2.heap.size := by omega
  have lQ2 : Q < w2.heap.size := by omega
  have BS2 := Hid.intro bS
  have BQ2 := Hid.intro bQ
  clear HS1 HR1 hB1 bS eS bQ eQ hb2 hg2 hs2
  have cQ0 : w2.cell? ⟨Q, 0, none⟩ = some (.int .i64 r.id) := heap_cell BQ2.out 0
  have cQ1 : w2.cell? ⟨Q, 1, none⟩ = some (.int .i64 r.kind) := heap_cell BQ2.out 1
  have cQ2 : w2.cell? ⟨Q, 2, none⟩ = some (.int .i64 r.addr) := heap_cell BQ2.out 2
  have cQ3 : w2.cell? ⟨Q, 3, none⟩ = some (.int .i64 r.many) := heap_cell BQ2.out 3
  have cQ4 : w2.cell? ⟨Q, 4, none⟩ = some (.bool r.wrap) := heap_cell BQ2.out 4
  have cQ5 : w2.cell? ⟨Q, 5, none⟩ = some (.slice pd r.data.length cd) := heap_cell BQ2.out 5
  have cQ6 : w2.cell? ⟨Q, 6, none⟩ = some (.slice pl r.lanes.length cl) := heap_cell BQ2.out 6
  cases k2 : stOkB s
  · go_wp2_with (go_at_call 26; refine (crOk_any _).mono ?_; rintro e w' ⟨rfl, rfl⟩)
    go_ret
    exact ⟨rfl, hB2⟩
  go_wp2_with fail
  refine (spec_ReqOk r pd pl cd cl w2 HR2.out).mono ?_
  rintro e w3 ⟨rfl, hb3⟩
  have hg3 := hb3
  have hs3 := hb3.size
  have BS3 := Hid.intro ((hg3.block S lS2).trans BS2.out)
  have BQ3 := Hid.intro ((hg3.block Q lQ2).trans BQ2.out)
  have HS3 := Hid.intro (HS2.out.below hg3)
  have HR3 := Hid.intro (HR2.out.below hg3)
  have hB3 := hB2.trans (hg3.mono hB2.size)
  have lS3 : S < w3.heap.size := by omega
  have lQ3 : Q < w3.heap.size := by omega
  clear BS2 lS2 BQ2 lQ2 HS2 HR2 hB2 hb3 hg3 hs3 cQ0 cQ1 cQ2 cQ3 cQ4 cQ5 cQ6
  have cS0 : w3.cell? ⟨S, 0, none⟩ = some (.slice (some ⟨bw, ow, none⟩) s.words.length cw) := heap_cell BS3.out 0
  have cS1 : w3.cell? ⟨S, 1, none⟩ = some (.slice (some ⟨bh, oh, none⟩) s.holds.length ch) := heap_cell BS3.out 1
  have cQ0 : w3.cell? ⟨Q, 0, none⟩ = some (.int .i64 r.id) := heap_cell BQ3.out 0
  have cQ1 : w3.cell? ⟨Q, 1, none⟩ = some (.int .i64 r.kind) := heap_cell BQ3.out 1
  have cQ2 : w3.cell? ⟨Q, 2, none⟩ = some (.int .i64 r.addr) := heap_cell BQ3.out 2
  have cQ3 : w3.cell? ⟨Q, 3, none⟩ = some (.int .i64 r.many) := heap_cell BQ3.out 3
  have cQ4 : w3.cell? ⟨Q, 4, none⟩ = some (.bool r.wrap) := heap_cell BQ3.out 4
  have cQ5 : w3.cell? ⟨Q, 5, none⟩ = some (.slice pd r.data.length cd) := heap_cell BQ3.out 5
  have cQ6 : w3.cell? ⟨Q, 6, none⟩ = some (.slice pl r.lanes.length cl) := heap_cell BQ3.out 6
  cases k5 : reqOkB r
  · go_wp2_with (go_at_call 26; refine (crOk_any _).mono ?_; rintro e w' ⟨rfl, rfl⟩)
    go_ret
    exact ⟨rfl, hB3⟩
  obtain ⟨q1, q2, q3⟩ := req_parts k5
  obtain ⟨g0, g1, _, _⟩ := (adrOk_iff _ _ _).1 q2
  clear q2 q3
  have mS1 : S < w3.heap.size + 1 := by omega
  have mQ1 : Q < w3.heap.size + 1 := by omega
  have mS2 : S < w3.heap.size + 1 + 1 := by omega
  have mQ2 : Q < w3.heap.size + 1 + 1 := by omega
  have mS3 : S < w3.heap.size + 1 + 1 + 1 := by omega
  have mQ3 : Q < w3.heap.size + 1 + 1 + 1 := by omega
  have mS4 : S < w3.heap.size + 1 + 1 + 1 + 1 := by omega
  have mQ4 : Q < w3.heap.size + 1 + 1 + 1 + 1 := by omega
  have mS5 : S < w3.heap.size + 1 + 1 + 1 + 1 + 1 := by omega
  have mQ5 : Q < w3.heap.size + 1 + 1 + 1 + 1 + 1 := by omega
  have mS6 : S < w3.heap.size + 1 + 1 + 1 + 1 + 1 + 1 := by omega
  have mQ6 : Q < w3.heap.size + 1 + 1 + 1 + 1 + 1 + 1 := by omega
  have mS7 : S < w3.heap.size + 1 + 1 + 1 + 1 + 1 + 1 + 1 := by omega
  have mQ7 : Q < w3.heap.size + 1 + 1 + 1 + 1 + 1 + 1 + 1 := by omega
  have mS8 : S < w3.heap.size + 1 + 1 + 1 + 1 + 1 + 1 + 1 + 1 := by omega
  have mQ8 : Q < w3.heap.size + 1 + 1 + 1 + 1 + 1 + 1 + 1 + 1 := by omega
  have mS9 : S < w3.heap.size + 1 + 1 + 1 + 1 + 1 + 1 + 1 + 1 + 1 := by omega
  have mQ9 : Q < w3.heap.size + 1 + 1 + 1 + 1 + 1 + 1 + 1 + 1 + 1 := by omega
  have mS10 : S < w3.heap.size + 1 + 1 + 1 + 1 + 1 + 1 + 1 + 1 + 1 + 1 := by omega
  have mQ10 : Q < w3.heap.size + 1 + 1 + 1 + 1 + 1 + 1 + 1 + 1 + 1 + 1 := by omega
  have mS11 : S < w3.heap.size + 1 + 1 + 1 + 1 + 1 + 1 + 1 + 1 + 1 + 1 + 1 := by omega
  have mQ11 : Q < w3.heap.size + 1 + 1 + 1 + 1 + 1 + 1 + 1 + 1 + 1 + 1 + 1 := by omega
  go_wp2_with (go_at_call 26; refine (crOk_any _).mono ?_; rintro e w' ⟨rfl, hwq⟩; have hwq2 := hwq.symm; clear hwq; subst hwq2)
  refine calls_gen (fun W' => Below w3.heap.size w3 W' ∧ W'.heap[w3.heap.size]? = some (.cells #[.int .i64 0, .int .i64 63, .int .i64 0, .bool false] 49 (0, 0)) ∧ W'.heap[w3.heap.size + 1]? = some (.cells #[.int .i64 r.id, .int .i64 3, .int .i64 r.addr, .int .i64 1, .bool false, .slice none 0 0, .slice none 0 0] 30 (0, 0)) ∧ W'.heap[w3.heap.size + 1 + 1]? = some (.cells #[.int .i64 77] 3 (0, 0)) ∧ W'.heap[w3.heap.size + 1 + 1 + 1]? = some (.cells #[.int .i64 3] 3 (0, 0)) ∧ W'.heap[w3.heap.size + 1 + 1 + 1 + 1]? = some (.cells #[.int .i64 r.id, .int .i64 4, .int .i64 r.addr, .int .i64 1, .bool false, .slice (some ⟨w3.heap.size + 1 + 1, 0, none⟩) 1 1, .slice (some ⟨w3.heap.size + 1 + 1 + 1, 0, none⟩) 1 1] 30 (0, 0)) ∧ W'.heap[w3.heap.size + 1 + 1 + 1 + 1 + 1]? = some (.cells #[.int .i64 5] 3 (0, 0)) ∧ W'.heap[w3.heap.size + 1 + 1 + 1 + 1 + 1 + 1]? = some (.cells #[.int .i64 ((len' : Int) % 4)] 3 (0, 0)) ∧ W'.heap[w3.heap.size + 1 + 1 + 1 + 1 + 1 + 1 + 1]? = some (.cells #[.int .i64 0, .int .i64 2, .int .i64 r.addr, .int .i64 1, .bool false, .slice (some ⟨w3.heap.size + 1 + 1 + 1 + 1 + 1, 0, none⟩) 1 1, .slice (some ⟨w3.heap.size + 1 + 1 + 1 + 1 + 1 + 1, 0, none⟩) 1 1] 30 (0, 0)) ∧ W'.heap[w3.heap.size + 1 + 1 + 1 + 1 + 1 + 1 + 1 + 1]? = some (.cells #[.int .i64 5] 3 (0, 0)) ∧ W'.heap[w3.heap.size + 1 + 1 + 1 + 1 + 1 + 1 + 1 + 1 + 1]? = some (.cells #[.int .i64 3] 3 (0, 0)) ∧ W'.heap[w3.heap.size + 1 + 1 + 1 + 1 + 1 + 1 + 1 + 1 + 1 + 1]? = some (.cells #[.int .i64 0, .int .i64 2, .int .i64 ((r.addr + 1 + (len' : Int) % 60) % 64), .int .i64 1, .bool false, .slice (some ⟨w3.heap.size + 1 + 1 + 1 + 1 + 1 + 1 + 1 + 1, 0, none⟩) 1 1, .slice (some ⟨w3.heap.size + 1 + 1 + 1 + 1 + 1 + 1 + 1 + 1 + 1, 0, none⟩) 1 1] 30 (0, 0))) ⟨?_, ?_, ?_, ?_, ?_, ?_, ?_, ?_, ?_, ?_, ?_, ?_⟩ ?_
  · exact ((((((((((((Below.refl _ w3).alloc (Nat.le_refl _) _).alloc (by simp <;> omega) _).alloc (by simp <;> omega) _).alloc (by simp <;> omega) _).alloc (by simp <;> omega) _).alloc (by simp <;> omega) _).alloc (by simp <;> omega) _).alloc (by simp <;> omega) _).alloc (by simp <;> omega) _).alloc (by simp <;> omega) _).alloc (by simp <;> omega) _)
  · exact (Below.heap_alloc _ _ _ (by simp <;> omega)).trans ((Below.heap_alloc _ _ _ (by simp <;> omega)).trans ((Below.heap_alloc _ _ _ (by simp <;> omega)).trans ((Below.heap_alloc _ _ _ (by simp <;> omega)).trans ((Below.heap_alloc _ _ _ (by simp <;> omega)).trans ((Below.heap_alloc _ _ _ (by simp <;> omega)).trans ((Below.heap_alloc _ _ _ (by simp <;> omega)).trans ((Below.heap_alloc _ _ _ (by simp <;> omega)).trans ((Below.heap_alloc _ _ _ (by simp <;> omega)).trans ((Below.heap_alloc _ _ _ (by simp <;> omega)).trans (nw_at _ (by simp)))))))))))
  · exact (Below.heap_alloc _ _ _ (by simp <;> omega)).trans ((Below.heap_alloc _ _ _ (by simp <;> omega)).trans ((Below.heap_alloc _ _ _ (by simp <;> omega)).trans ((Below.heap_alloc _ _ _ (by simp <;> omega)).trans ((Below.heap_alloc _ _ _ (by simp <;> omega)).trans ((Below.heap_alloc _ _ _ (by simp <;> omega)).trans ((Below.heap_alloc _ _ _ (by simp <;> omega)).trans ((Below.heap_alloc _ _ _ (by simp <;> omega)).trans ((Below.heap_alloc _ _ _ (by simp <;> omega)).trans (nw_at _ (by simp))))))))))
  · exact (Below.heap_alloc _ _ _ (by simp <;> omega)).trans ((Below.heap_alloc _ _ _ (by simp <;> omega)).trans ((Below.heap_alloc _ _ _ (by simp <;> omega)).trans ((Below.heap_alloc _ _ _ (by simp <;> omega)).trans ((Below.heap_alloc _ _ _ (by simp <;> omega)).trans ((Below.heap_alloc _ _ _ (by simp <;> omega)).trans ((Below.heap_alloc _ _ _ (by simp <;> omega)).trans ((Below.heap_alloc _ _ _ (by simp <;> omega)).trans (nw_at _ (by simp)))))))))
  · exact (Below.heap_alloc _ _ _ (by simp <;> omega)).trans ((Below.heap_alloc _ _ _ (by simp <;> omega)).trans ((Below.heap_alloc _ _ _ (by simp <;> omega)).trans ((Below.heap_alloc _ _ _ (by simp <;> omega)).trans ((Below.heap_alloc _ _ _ (by simp <;> omega)).trans ((Below.heap_alloc _ _ _ (by simp <;> omega)).trans ((Below.heap_alloc _ _ _ (by simp <;> omega)).trans (nw_at _ (by simp))))))))
  · exact (Below.heap_alloc _ _ _ (by simp <;> omega)).trans ((Below.heap_alloc _ _ _ (by simp <;> omega)).trans ((Below.heap_alloc _ _ _ (by simp <;> omega)).trans ((Below.heap_alloc _ _ _ (by simp <;> omega)).trans ((Below.heap_alloc _ _ _ (by simp <;> omega)).trans ((Below.heap_alloc _ _ _ (by simp <;> omega)).trans (nw_at _ (by simp)))))))
  · exact (Below.heap_alloc _ _ _ (by simp <;> omega)).trans ((Below.heap_alloc _ _ _ (by simp <;> omega)).trans ((Below.heap_alloc _ _ _ (by simp <;> omega)).trans ((Below.heap_alloc _ _ _ (by simp <;> omega)).trans ((Below.heap_alloc _ _ _ (by simp <;> omega)).trans (nw_at _ (by simp))))))
  · exact (Below.heap_alloc _ _ _ (by simp <;> omega)).trans ((Below.heap_alloc _ _ _ (by simp <;> omega)).trans ((Below.heap_alloc _ _ _ (by simp <;> omega)).trans ((Below.heap_alloc _ _ _ (by simp <;> omega)).trans (nw_at _ (by simp)))))
  · exact (Below.heap_alloc _ _ _ (by simp <;> omega)).trans ((Below.heap_alloc _ _ _ (by simp <;> omega)).trans ((Below.heap_alloc _ _ _ (by simp <;> omega)).trans (nw_at _ (by simp))))
  · exact (Below.heap_alloc _ _ _ (by simp <;> omega)).trans ((Below.heap_alloc _ _ _ (by simp <;> omega)).trans (nw_at _ (by simp)))
  · exact (Below.heap_alloc _ _ _ (by simp <;> omega)).trans (nw_at _ (by simp))
  · exact nw_at _ (by simp)
  rintro w4 ⟨hb4, f0, f1, f2, f3, f4, f5, f6, f7, f8, f9, f10⟩
  clear mS1 mQ1 mS2 mQ2 mS3 mQ3 mS4 mQ4 mS5 mQ5 mS6 mQ6 mS7 mQ7 mS8 mQ8 mS9 mQ9 mS10 mQ10 mS11 mQ11
  have hg4 := hb4
  have hs4 := hb4.size
  have BS4 := Hid.intro ((hg4.block S lS3).trans BS3.out)
  have BQ4 := Hid.intro ((hg4.block Q lQ3).trans BQ3.out)
  have HS4 := Hid.intro (HS3.out.below hg4)
  have HR4 := Hid.intro (HR3.out.below hg4)
  have hB4 := hB3.trans (hg4.mono hB3.size)
  have lS4 : S < w4.heap.size := by omega
  have lQ4 : Q < w4.heap.size := by omega
  clear BS3 lS3 BQ3 lQ3 HS3 HR3 hB3 hb4 hg4 hs4 cS0 cS1 cQ0 cQ1 cQ2 cQ3 cQ4 cQ5 cQ6
  obtain ⟨El, eEl⟩ : ∃ v, v = w3.heap.size + 1 + 1 + 1 + 1 + 1 + 1 + 1 + 1 + 1 + 1 := ⟨_, rfl⟩
  rw [← eEl] at f10 ⊢
  obtain ⟨Gb, eGb⟩ : ∃ v, v = w3.heap.size + 1 + 1 + 1 + 1 + 1 + 1 + 1 + 1 + 1 := ⟨_, rfl⟩
  rw [← eGb] at f9 f10 ⊢
  obtain ⟨Ga, eGa⟩ : ∃ v, v = w3.heap.size + 1 + 1 + 1 + 1 + 1 + 1 + 1 + 1 := ⟨_, rfl⟩
  rw [← eGa] at f8 f10 ⊢
  obtain ⟨Th, eTh⟩ : ∃ v, v = w3.heap.size + 1 + 1 + 1 + 1 + 1 + 1 + 1 := ⟨_, rfl⟩
  rw [← eTh] at f7 ⊢
  obtain ⟨Eb, eEb⟩ : ∃ v, v = w3.heap.size + 1 + 1 + 1 + 1 + 1 + 1 := ⟨_, rfl⟩
  rw [← eEb] at f6 f7 ⊢
  obtain ⟨Ea, eEa⟩ : ∃ v, v = w3.heap.size + 1 + 1 + 1 + 1 + 1 := ⟨_, rfl⟩
  rw [← eEa] at f5 f7 ⊢
  obtain ⟨Tr, eTr⟩ : ∃ v, v = w3.heap.size + 1 + 1 + 1 + 1 := ⟨_, rfl⟩
  rw [← eTr] at f4 ⊢
  obtain ⟨Db, eDb⟩ : ∃ v, v = w3.heap.size + 1 + 1 + 1 := ⟨_, rfl⟩
  rw [← eDb] at f3 f4 ⊢
  obtain ⟨Da, eDa⟩ : ∃ v, v = w3.heap.size + 1 + 1 := ⟨_, rfl⟩
  rw [← eDa] at f2 f4 ⊢
  obtain ⟨Ho, eHo⟩ : ∃ v, v = w3.heap.size + 1 := ⟨_, rfl⟩
  rw [← eHo] at f1 ⊢
  obtain ⟨La, eLa⟩ : ∃ v, v = w3.heap.size := ⟨_, rfl⟩
  rw [← eLa] at f0 ⊢
  obtain ⟨wo, ewo⟩ : ∃ v, v = (len' : Int) % 3 := ⟨_, rfl⟩
  obtain ⟨l4, el4⟩ : ∃ v, v = (len' : Int) % 4 := ⟨_, rfl⟩
  obtain ⟨ad, ead⟩ : ∃ v, v = (r.addr + 1 + (len' : Int) % 60) % 64 := ⟨_, rfl⟩
  rw [← ewo]
  rw [← el4] at f6
  rw [← ead] at f10
  have w0 : 0 ≤ wo ∧ wo ≤ 2 := by omega
  have l0 : 0 ≤ l4 ∧ l4 ≤ 3 := by omega
  have d0 : 0 ≤ ad ∧ ad ≤ 63 := by omega
  have dn : ad ≠ r.addr := by omega
  obtain ⟨oth, eoth⟩ : ∃ v, v = (wo + 1) % 3 := ⟨_, rfl⟩
  have ho : 0 ≤ oth ∧ oth ≤ 2 := by omega
  clear ewo el4 ead eLa eHo eDa eDb eTr eEa eEb eTh eGa eGb eEl
  have BHo4 := Hid.intro f1
  have lHo4 := heap_lt f1
  have BTr4 := Hid.intro f4
  have lTr4 := heap_lt f4
  have BTh4 := Hid.intro f7
  have lTh4 := heap_lt f7
  have BEl4 := Hid.intro f10
  have lEl4 := heap_lt f10
  have hM : RowOf w4 (some ⟨La, 0, none⟩) ms1 := row1 f0
  have hRt : ReqAt w4 (tryQ r.id r.addr) (some ⟨Da, 0, none⟩) 1 (some ⟨Db, 0, none⟩) 1 := ⟨ints1 f2, ints1 f3, by simp [tryQ], by omega, by simp [tryQ], by omega⟩
  have hRw : ReqAt w4 (wrtQ r.addr l4) (some ⟨Ea, 0, none⟩) 1 (some ⟨Eb, 0, none⟩) 1 := ⟨ints1 f5, ints1 f6, by simp [wrtQ], by omega, by simp [wrtQ], by omega⟩
  have hRe : ReqAt w4 (wrtQ ad 3) (some ⟨Ga, 0, none⟩) 1 (some ⟨Gb, 0, none⟩) 1 := ⟨ints1 f8, ints1 f9, by simp [wrtQ], by omega, by simp [wrtQ], by omega⟩
  have HM4 := Hid.intro hM
  have HRt4 := Hid.intro hRt
  have HRw4 := Hid.intro hRw
  have HRe4 := Hid.intro hRe
  clear hM hRt hRw hRe f0 f1 f2 f3 f4 f5 f6 f7 f8 f9 f10
  obtain ⟨xs, xr, z1⟩ : ∃ u v, atmZ ms1 s wo (holdQ r.id r.addr) = (u, v) := ⟨_, _, rfl⟩
  obtain ⟨ys, yr, z2⟩ : ∃ u v, atmZ ms1 xs wo (tryQ r.id r.addr) = (u, v) := ⟨_, _, rfl⟩
  obtain ⟨zs, zr, z3⟩ : ∃ u v, atmZ ms1 xs oth (wrtQ r.addr l4) = (u, v) := ⟨_, _, rfl⟩
  obtain ⟨ts, tr, z4⟩ : ∃ u v, atmZ ms1 zs wo (tryQ r.id r.addr) = (u, v) := ⟨_, _, rfl⟩
  obtain ⟨us, ur, z5⟩ : ∃ u v, atmZ ms1 xs oth (wrtQ ad 3) = (u, v) := ⟨_, _, rfl⟩
  obtain ⟨vs, vr, z6⟩ : ∃ u v, atmZ ms1 us wo (tryQ r.id r.addr) = (u, v) := ⟨_, _, rfl⟩
  obtain ⟨gs, ar, z7⟩ : ∃ u v, atmZ ms1 ys wo (tryQ r.id r.addr) = (u, v) := ⟨_, _, rfl⟩
  have hall := try_all k2 (inB_t w0) (inB_t ho) q1 g0 g1 d0.1 d0.2 dn l0.1 l0.2 z1 z2 z3 z4 z5 z6 z7
  have HAll := Hid.intro hall
  have Z1 := Hid.intro z1
  have Z2 := Hid.intro z2
  have Z3 := Hid.intro z3
  have Z4 := Hid.intro z4
  have Z5 := Hid.intro z5
  have Z6 := Hid.intro z6
  have Z7 := Hid.intro z7
  have Hoth := Hid.intro eoth
  clear hall dn l0 d0 ho eoth k2 k5 q1 z1 z2 z3 z4 z5 z6 z7
  refine (atmF_at HC.out Z1.out (ms := ms1) (HM4.out) (by decide) (by omega) (HS4.out) (r := holdQ r.id r.addr) (pd := none) (pl := none) (cd := 0) (cl := 0) ⟨.inl rfl, .inl rfl, by simp [holdQ], by omega, by simp [holdQ], by omega⟩).mono ?_
  rintro e w5 ⟨pw, pm, ph, pn, px, pk, rfl, hO, hb5⟩
  have hg5 := hb5
  have hs5 := hb5.size
  have BS5 := Hid.intro ((hg5.block S lS4).trans BS4.out)
  have BQ5 := Hid.intro ((hg5.block Q lQ4).trans BQ4.out)
  have BHo5 := Hid.intro ((hg5.block Ho lHo4).trans BHo4.out)
  have BTr5 := Hid.intro ((hg5.block Tr lTr4).trans BTr4.out)
  have BTh5 := Hid.intro ((hg5.block Th lTh4).trans BTh4.out)
  have BEl5 := Hid.intro ((hg5.block El lEl4).trans BEl4.out)
  have HS5 := Hid.intro (HS4.out.below hg5)
  have HR5 := Hid.intro (HR4.out.below hg5)
  have HM5 := Hid.intro (HM4.out.below hg5)
  have HRt5 := Hid.intro (HRt4.out.below hg5)
  have HRw5 := Hid.intro (HRw4.out.below hg5)
  have HRe5 := Hid.intro (HRe4.out.below hg5)
  have hB5 := hB4.trans (hg5.mono hB4.size)
  have lS5 : S < w5.heap.size := by omega
  have lQ5 : Q < w5.heap.size := by omega
  have lHo5 : Ho < w5.heap.size := by omega
  have lTr5 : Tr < w5.heap.size := by omega
  have lTh5 : Th < w5.heap.size := by omega
  have lEl5 : El < w5.heap.size := by omega
  clear BS4 lS4 BQ4 lQ4 BHo4 lHo4 BTr4 lTr4 BTh4 lTh4 BEl4 lEl4 HS4 HR4 HM4 HRt4 HRw4 HRe4 hB4 hb5 hg5 hs5
  have HXo5 := Hid.intro hO
  clear hO Z1
  have cTr0 : w5.cell? ⟨Tr, 0, none⟩ = some (.int .i64 r.id) := heap_cell BTr5.out 0
  have cTr1 : w5.cell? ⟨Tr, 1, none⟩ = some (.int .i64 4) := heap_cell BTr5.out 1
  have cTr2 : w5.cell? ⟨Tr, 2, none⟩ = some (.int .i64 r.addr) := heap_cell BTr5.out 2
  have cTr3 : w5.cell? ⟨Tr, 3, none⟩ = some (.int .i64 1) := heap_cell BTr5.out 3
  have cTr4 : w5.cell? ⟨Tr, 4, none⟩ = some (.bool false) := heap_cell BTr5.out 4
  have cTr5 : w5.cell? ⟨Tr, 5, none⟩ = some (.slice (some ⟨Da, 0, none⟩) 1 1) := heap_cell BTr5.out 5
  have cTr6 : w5.cell? ⟨Tr, 6, none⟩ = some (.slice (some ⟨Db, 0, none⟩) 1 1) := heap_cell BTr5.out 6
  unfold stV rspV
  go_wp2_with fail
  first | rw [← Hoth.out] | skip
  refine (atmF_at HC.out Z2.out (ms := ms1) (HM5.out.below (below_two _ _ _)) (by decide) (by omega) (HXo5.out.st.below (below_two _ _ _)) (r := tryQ r.id r.addr) (HRt5.out.below (below_two _ _ _))).mono ?_
  rintro e w6 ⟨qw, qm, qh, qn, qx, qk, rfl, hO, hb6⟩
  have hg6 : Below w5.heap.size w5 w6 := Below.trans (below_two w5 _ _) (hb6.mono (by simp; omega))
  have hs6 := hb6.size
  simp only [World.size_alloc] at hs6
  have BS6 := Hid.intro ((hg6.block S lS5).trans BS5.out)
  have BQ6 := Hid.intro ((hg6.block Q lQ5).trans BQ5.out)
  have BHo6 := Hid.intro ((hg6.block Ho lHo5).trans BHo5.out)
  have BTr6 := Hid.intro ((hg6.block Tr lTr5).trans BTr5.out)
  have BTh6 := Hid.intro ((hg6.block Th lTh5).trans BTh5.out)
  have BEl6 := Hid.intro ((hg6.block El lEl5).trans BEl5.out)
  have HS6 := Hid.intro (HS5.out.below hg6)
  have HR6 := Hid.intro (HR5.out.below hg6)
  have HM6 := Hid.intro (HM5.out.below hg6)
  have HRt6 := Hid.intro (HRt5.out.below hg6)
  have HRw6 := Hid.intro (HRw5.out.below hg6)
  have HRe6 := Hid.intro (HRe5.out.below hg6)
  have HXo6 := Hid.intro (HXo5.out.below hg6)
  have hB6 := hB5.trans (hg6.mono hB5.size)
  have lS6 : S < w6.heap.size := by omega
  have lQ6 : Q < w6.heap.size := by omega
  have lHo6 : Ho < w6.heap.size := by omega
  have lTr6 : Tr < w6.heap.size := by omega
  have lTh6 : Th < w6.heap.size := by omega
  have lEl6 : El < w6.heap.size := by omega
  have bX : w6.heap[w5.heap.size]? = some (.cells #[.slice pw xs.words.length pm, .slice ph xs.holds.length pn] 28 (0, 0)) := (hb6.block _ (by simp; omega)).trans (two_at0 _ _ _)
  obtain ⟨X, eX⟩ : ∃ v, v = w5.heap.size := ⟨_, rfl⟩
  have bXr : w6.heap[w5.heap.size + 1]? = some (.cells #[.int .i64 xr.id, .int .i64 xr.code, .slice px xr.data.length pk] 34 (0, 0)) := (hb6.block _ (by simp)).trans (two_at1 _ _ _)
  obtain ⟨Xr, eXr⟩ : ∃ v, v = w5.heap.size + 1 := ⟨_, rfl⟩
  rw [← eXr] at bXr ⊢
  rw [← eX] at bX ⊢
  have lX6 : X < w6.heap.size := by omega
  have lXr6 : Xr < w6.heap.size := by omega
  have BX6 := Hid.intro bX
  have BXr6 := Hid.intro bXr
  clear BS5 lS5 BQ5 lQ5 BHo5 lHo5 BTr5 lTr5 BTh5 lTh5 BEl5 lEl5 HS5 HR5 HM5 HRt5 HRw5 HRe5 HXo5 hB5 bX eX bXr eXr hb6 hg6 hs6 cTr0 cTr1 cTr2 cTr3 cTr4 cTr5 cTr6
  have HYo6 := Hid.intro hO
  clear hO Z2
  have cX0 : w6.cell? ⟨X, 0, none⟩ = some (.slice pw xs.words.length pm) := heap_cell BX6.out 0
  have cX1 : w6.cell? ⟨X, 1, none⟩ = some (.slice ph xs.holds.length pn) := heap_cell BX6.out 1
  have cTh0 : w6.cell? ⟨Th, 0, none⟩ = some (.int .i64 0) := heap_cell BTh6.out 0
  have cTh1 : w6.cell? ⟨Th, 1, none⟩ = some (.int .i64 2) := heap_cell BTh6.out 1
  have cTh2 : w6.cell? ⟨Th, 2, none⟩ = some (.int .i64 r.addr) := heap_cell BTh6.out 2
  have cTh3 : w6.cell? ⟨Th, 3, none⟩ = some (.int .i64 1) := heap_cell BTh6.out 3
  have cTh4 : w6.cell? ⟨Th, 4, none⟩ = some (.bool false) := heap_cell BTh6.out 4
  have cTh5 : w6.cell? ⟨Th, 5, none⟩ = some (.slice (some ⟨Ea, 0, none⟩) 1 1) := heap_cell BTh6.out 5
  have cTh6 : w6.cell? ⟨Th, 6, none⟩ = some (.slice (some ⟨Eb, 0, none⟩) 1 1) := heap_cell BTh6.out 6
  unfold stV rspV
  go_wp2_with fail
  first | rw [← Hoth.out] | skip
  refine (atmF_at HC.out Z3.out (ms := ms1) (HM6.out.below (below_two _ _ _)) (by decide) (by omega) (HXo6.out.st.below (below_two _ _ _)) (r := wrtQ r.addr l4) (HRw6.out.below (below_two _ _ _))).mono ?_
  rintro e w7 ⟨uw, um, uh, un, ux, uk, rfl, hO, hb7⟩
  have hg7 : Below w6.heap.size w6 w7 := Below.trans (below_two w6 _ _) (hb7.mono (by simp; omega))
  have hs7 := hb7.size
  simp only [World.size_alloc] at hs7
  have BS7 := Hid.intro ((hg7.block S lS6).trans BS6.out)
  have BQ7 := Hid.intro ((hg7.block Q lQ6).trans BQ6.out)
  have BHo7 := Hid.intro ((hg7.block Ho lHo6).trans BHo6.out)
  have BTr7 := Hid.intro ((hg7.block Tr lTr6).trans BTr6.out)
  have BTh7 := Hid.intro ((hg7.block Th lTh6).trans BTh6.out)
  have BEl7 := Hid.intro ((hg7.block El lEl6).trans BEl6.out)
  have BX7 := Hid.intro ((hg7.block X lX6).trans BX6.out)
  have BXr7 := Hid.intro ((hg7.block Xr lXr6).trans BXr6.out)
  have HS7 := Hid.intro (HS6.out.below hg7)
  have HR7 := Hid.intro (HR6.out.below hg7)
  have HM7 := Hid.intro (HM6.out.below hg7)
  have HRt7 := Hid.intro (HRt6.out.below hg7)
  have HRw7 := Hid.intro (HRw6.out.below hg7)
  have HRe7 := Hid.intro (HRe6.out.below hg7)
  have HXo7 := Hid.intro (HXo6.out.below hg7)
  have HYo7 := Hid.intro (HYo6.out.below hg7)
  have hB7 := hB6.trans (hg7.mono hB6.size)
  have lS7 : S < w7.heap.size := by omega
  have lQ7 : Q < w7.heap.size := by omega
  have lHo7 : Ho < w7.heap.size := by omega
  have lTr7 : Tr < w7.heap.size := by omega
  have lTh7 : Th < w7.heap.size := by omega
  have lEl7 : El < w7.heap.size := by omega
  have lX7 : X < w7.heap.size := by omega
  have lXr7 : Xr < w7.heap.size := by omega
  have bY : w7.heap[w6.heap.size]? = some (.cells #[.slice qw ys.words.length qm, .slice qh ys.holds.length qn] 28 (0, 0)) := (hb7.block _ (by simp; omega)).trans (two_at0 _ _ _)
  obtain ⟨Y, eY⟩ : ∃ v, v = w6.heap.size := ⟨_, rfl⟩
  have bYr : w7.heap[w6.heap.size + 1]? = some (.cells #[.int .i64 yr.id, .int .i64 yr.code, .slice qx yr.data.length qk] 34 (0, 0)) := (hb7.block _ (by simp)).trans (two_at1 _ _ _)
  obtain ⟨Yr, eYr⟩ : ∃ v, v = w6.heap.size + 1 := ⟨_, rfl⟩
  rw [← eYr] at bYr ⊢
  rw [← eY] at bY ⊢
  have lY7 : Y < w7.heap.size := by omega
  have lYr7 : Yr < w7.heap.size := by omega
  have BY7 := Hid.intro bY
  have BYr7 := Hid.intro bYr
  clear BS6 lS6 BQ6 lQ6 BHo6 lHo6 BTr6 lTr6 BTh6 lTh6 BEl6 lEl6 BX6 lX6 BXr6 lXr6 HS6 HR6 HM6 HRt6 HRw6 HRe6 HXo6 HYo6 hB6 bY eY bYr eYr hb7 hg7 hs7 cX0 cX1 cTh0 cTh1 cTh2 cTh3 cTh4 cTh5 cTh6
  have HZbo7 := Hid.intro hO
  clear hO Z3
  have cTr0 : w7.cell? ⟨Tr, 0, none⟩ = some (.int .i64 r.id) := heap_cell BTr7.out 0
  have cTr1 : w7.cell? ⟨Tr, 1, none⟩ = some (.int .i64 4) := heap_cell BTr7.out 1
  have cTr2 : w7.cell? ⟨Tr, 2, none⟩ = some (.int .i64 r.addr) := heap_cell BTr7.out 2
  have cTr3 : w7.cell? ⟨Tr, 3, none⟩ = some (.int .i64 1) := heap_cell BTr7.out 3
  have cTr4 : w7.cell? ⟨Tr, 4, none⟩ = some (.bool false) := heap_cell BTr7.out 4
  have cTr5 : w7.cell? ⟨Tr, 5, none⟩ = some (.slice (some ⟨Da, 0, none⟩) 1 1) := heap_cell BTr7.out 5
  have cTr6 : w7.cell? ⟨Tr, 6, none⟩ = some (.slice (some ⟨Db, 0, none⟩) 1 1) := heap_cell BTr7.out 6
  unfold stV rspV
  go_wp2_with fail
  first | rw [← Hoth.out] | skip
  refine (atmF_at HC.out Z4.out (ms := ms1) (HM7.out.below (below_two _ _ _)) (by decide) (by omega) (HZbo7.out.st.below (below_two _ _ _)) (r := tryQ r.id r.addr) (HRt7.out.below (below_two _ _ _))).mono ?_
  rintro e w8 ⟨vw, vm, vh, vn, vx, vk, rfl, hO, hb8⟩
  have hg8 : Below w7.heap.size w7 w8 := Below.trans (below_two w7 _ _) (hb8.mono (by simp; omega))
  have hs8 := hb8.size
  simp only [World.size_alloc] at hs8
  have BS8 := Hid.intro ((hg8.block S lS7).trans BS7.out)
  have BQ8 := Hid.intro ((hg8.block Q lQ7).trans BQ7.out)
  have BHo8 := Hid.intro ((hg8.block Ho lHo7).trans BHo7.out)
  have BTr8 := Hid.intro ((hg8.block Tr lTr7).trans BTr7.out)
  have BTh8 := Hid.intro ((hg8.block Th lTh7).trans BTh7.out)
  have BEl8 := Hid.intro ((hg8.block El lEl7).trans BEl7.out)
  have BX8 := Hid.intro ((hg8.block X lX7).trans BX7.out)
  have BXr8 := Hid.intro ((hg8.block Xr lXr7).trans BXr7.out)
  have BY8 := Hid.intro ((hg8.block Y lY7).trans BY7.out)
  have BYr8 := Hid.intro ((hg8.block Yr lYr7).trans BYr7.out)
  have HS8 := Hid.intro (HS7.out.below hg8)
  have HR8 := Hid.intro (HR7.out.below hg8)
  have HM8 := Hid.intro (HM7.out.below hg8)
  have HRt8 := Hid.intro (HRt7.out.below hg8)
  have HRw8 := Hid.intro (HRw7.out.below hg8)
  have HRe8 := Hid.intro (HRe7.out.below hg8)
  have HXo8 := Hid.intro (HXo7.out.below hg8)
  have HYo8 := Hid.intro (HYo7.out.below hg8)
  have HZbo8 := Hid.intro (HZbo7.out.below hg8)
  have hB8 := hB7.trans (hg8.mono hB7.size)
  have lS8 : S < w8.heap.size := by omega
  have lQ8 : Q < w8.heap.size := by omega
  have lHo8 : Ho < w8.heap.size := by omega
  have lTr8 : Tr < w8.heap.size := by omega
  have lTh8 : Th < w8.heap.size := by omega
  have lEl8 : El < w8.heap.size := by omega
  have lX8 : X < w8.heap.size := by omega
  have lXr8 : Xr < w8.heap.size := by omega
  have lY8 : Y < w8.heap.size := by omega
  have lYr8 : Yr < w8.heap.size := by omega
  have bZb : w8.heap[w7.heap.size]? = some (.cells #[.slice uw zs.words.length um, .slice uh zs.holds.length un] 28 (0, 0)) := (hb8.block _ (by simp; omega)).trans (two_at0 _ _ _)
  obtain ⟨Zb, eZb⟩ : ∃ v, v = w7.heap.size := ⟨_, rfl⟩
  have bZr : w8.heap[w7.heap.size + 1]? = some (.cells #[.int .i64 zr.id, .int .i64 zr.code, .slice ux zr.data.length uk] 34 (0, 0)) := (hb8.block _ (by simp)).trans (two_at1 _ _ _)
  obtain ⟨Zr, eZr⟩ : ∃ v, v = w7.heap.size + 1 := ⟨_, rfl⟩
  rw [← eZr] at bZr ⊢
  rw [← eZb] at bZb ⊢
  have lZb8 : Zb < w8.heap.size := by omega
  have lZr8 : Zr < w8.heap.size := by omega
  have BZb8 := Hid.intro bZb
  have BZr8 := Hid.intro bZr
  clear BS7 lS7 BQ7 lQ7 BHo7 lHo7 BTr7 lTr7 BTh7 lTh7 BEl7 lEl7 BX7 lX7 BXr7 lXr7 BY7 lY7 BYr7 lYr7 HS7 HR7 HM7 HRt7 HRw7 HRe7 HXo7 HYo7 HZbo7 hB7 bZb eZb bZr eZr hb8 hg8 hs8 cTr0 cTr1 cTr2 cTr3 cTr4 cTr5 cTr6
  have HTbo8 := Hid.intro hO
  clear hO Z4
  have cX0 : w8.cell? ⟨X, 0, none⟩ = some (.slice pw xs.words.length pm) := heap_cell BX8.out 0
  have cX1 : w8.cell? ⟨X, 1, none⟩ = some (.slice ph xs.holds.length pn) := heap_cell BX8.out 1
  have cEl0 : w8.cell? ⟨El, 0, none⟩ = some (.int .i64 0) := heap_cell BEl8.out 0
  have cEl1 : w8.cell? ⟨El, 1, none⟩ = some (.int .i64 2) := heap_cell BEl8.out 1
  have cEl2 : w8.cell? ⟨El, 2, none⟩ = some (.int .i64 ad) := heap_cell BEl8.out 2
  have cEl3 : w8.cell? ⟨El, 3, none⟩ = some (.int .i64 1) := heap_cell BEl8.out 3
  have cEl4 : w8.cell? ⟨El, 4, none⟩ = some (.bool false) := heap_cell BEl8.out 4
  have cEl5 : w8.cell? ⟨El, 5, none⟩ = some (.slice (some ⟨Ga, 0, none⟩) 1 1) := heap_cell BEl8.out 5
  have cEl6 : w8.cell? ⟨El, 6, none⟩ = some (.slice (some ⟨Gb, 0, none⟩) 1 1) := heap_cell BEl8.out 6
  unfold stV rspV
  go_wp2_with fail
  first | rw [← Hoth.out] | skip
  refine (atmF_at HC.out Z5.out (ms := ms1) (HM8.out.below (below_two _ _ _)) (by decide) (by omega) (HXo8.out.st.below (below_two _ _ _)) (r := wrtQ ad 3) (HRe8.out.below (below_two _ _ _))).mono ?_
  rintro e w9 ⟨kaw, kam, kah, kan, kax, kak, rfl, hO, hb9⟩
  have hg9 : Below w8.heap.size w8 w9 := Below.trans (below_two w8 _ _) (hb9.mono (by simp; omega))
  have hs9 := hb9.size
  simp only [World.size_alloc] at hs9
  have BS9 := Hid.intro ((hg9.block S lS8).trans BS8.out)
  have BQ9 := Hid.intro ((hg9.block Q lQ8).trans BQ8.out)
  have BHo9 := Hid.intro ((hg9.block Ho lHo8).trans BHo8.out)
  have BTr9 := Hid.intro ((hg9.block Tr lTr8).trans BTr8.out)
  have BTh9 := Hid.intro ((hg9.block Th lTh8).trans BTh8.out)
  have BEl9 := Hid.intro ((hg9.block El lEl8).trans BEl8.out)
  have BX9 := Hid.intro ((hg9.block X lX8).trans BX8.out)
  have BXr9 := Hid.intro ((hg9.block Xr lXr8).trans BXr8.out)
  have BY9 := Hid.intro ((hg9.block Y lY8).trans BY8.out)
  have BYr9 := Hid.intro ((hg9.block Yr lYr8).trans BYr8.out)
  have BZb9 := Hid.intro ((hg9.block Zb lZb8).trans BZb8.out)
  have BZr9 := Hid.intro ((hg9.block Zr lZr8).trans BZr8.out)
  have HS9 := Hid.intro (HS8.out.below hg9)
  have HR9 := Hid.intro (HR8.out.below hg9)
  have HM9 := Hid.intro (HM8.out.below hg9)
  have HRt9 := Hid.intro (HRt8.out.below hg9)
  have HRw9 := Hid.intro (HRw8.out.below hg9)
  have HRe9 := Hid.intro (HRe8.out.below hg9)
  have HXo9 := Hid.intro (HXo8.out.below hg9)
  have HYo9 := Hid.intro (HYo8.out.below hg9)
  have HZbo9 := Hid.intro (HZbo8.out.below hg9)
  have HTbo9 := Hid.intro (HTbo8.out.below hg9)
  have hB9 := hB8.trans (hg9.mono hB8.size)
  have lS9 : S < w9.heap.size := by omega
  have lQ9 : Q < w9.heap.size := by omega
  have lHo9 : Ho < w9.heap.size := by omega
  have lTr9 : Tr < w9.heap.size := by omega
  have lTh9 : Th < w9.heap.size := by omega
  have lEl9 : El < w9.heap.size := by omega
  have lX9 : X < w9.heap.size := by omega
  have lXr9 : Xr < w9.heap.size := by omega
  have lY9 : Y < w9.heap.size := by omega
  have lYr9 : Yr < w9.heap.size := by omega
  have lZb9 : Zb < w9.heap.size := by omega
  have lZr9 : Zr < w9.heap.size := by omega
  have bTb : w9.heap[w8.heap.size]? = some (.cells #[.slice vw ts.words.length vm, .slice vh ts.holds.length vn] 28 (0, 0)) := (hb9.block _ (by simp; omega)).trans (two_at0 _ _ _)
  obtain ⟨Tb, eTb⟩ : ∃ v, v = w8.heap.size := ⟨_, rfl⟩
  have bTt : w9.heap[w8.heap.size + 1]? = some (.cells #[.int .i64 tr.id, .int .i64 tr.code, .slice vx tr.data.length vk] 34 (0, 0)) := (hb9.block _ (by simp)).trans (two_at1 _ _ _)
  obtain ⟨Tt, eTt⟩ : ∃ v, v = w8.heap.size + 1 := ⟨_, rfl⟩
  rw [← eTt] at bTt ⊢
  rw [← eTb] at bTb ⊢
  have lTb9 : Tb < w9.heap.size := by omega
  have lTt9 : Tt < w9.heap.size := by omega
  have BTb9 := Hid.intro bTb
  have BTt9 := Hid.intro bTt
  clear BS8 lS8 BQ8 lQ8 BHo8 lHo8 BTr8 lTr8 BTh8 lTh8 BEl8 lEl8 BX8 lX8 BXr8 lXr8 BY8 lY8 BYr8 lYr8 BZb8 lZb8 BZr8 lZr8 HS8 HR8 HM8 HRt8 HRw8 HRe8 HXo8 HYo8 HZbo8 HTbo8 hB8 bTb eTb bTt eTt hb9 hg9 hs9 cX0 cX1 cEl0 cEl1 cEl2 cEl3 cEl4 cEl5 cEl6
  have HUbo9 := Hid.intro hO
  clear hO Z5
  have cTr0 : w9.cell? ⟨Tr, 0, none⟩ = some (.int .i64 r.id) := heap_cell BTr9.out 0
  have cTr1 : w9.cell? ⟨Tr, 1, none⟩ = some (.int .i64 4) := heap_cell BTr9.out 1
  have cTr2 : w9.cell? ⟨Tr, 2, none⟩ = some (.int .i64 r.addr) := heap_cell BTr9.out 2
  have cTr3 : w9.cell? ⟨Tr, 3, none⟩ = some (.int .i64 1) := heap_cell BTr9.out 3
  have cTr4 : w9.cell? ⟨Tr, 4, none⟩ = some (.bool false) := heap_cell BTr9.out 4
  have cTr5 : w9.cell? ⟨Tr, 5, none⟩ = some (.slice (some ⟨Da, 0, none⟩) 1 1) := heap_cell BTr9.out 5
  have cTr6 : w9.cell? ⟨Tr, 6, none⟩ = some (.slice (some ⟨Db, 0, none⟩) 1 1) := heap_cell BTr9.out 6
  unfold stV rspV
  go_wp2_with fail
  first | rw [← Hoth.out] | skip
  refine (atmF_at HC.out Z6.out (ms := ms1) (HM9.out.below (below_two _ _ _)) (by decide) (by omega) (HUbo9.out.st.below (below_two _ _ _)) (r := tryQ r.id r.addr) (HRt9.out.below (below_two _ _ _))).mono ?_
  rintro e w10 ⟨jw, jm, jh, jn, jx, jk, rfl, hO, hb10⟩
  have hg10 : Below w9.heap.size w9 w10 := Below.trans (below_two w9 _ _) (hb10.mono (by simp; omega))
  have hs10 := hb10.size
  simp only [World.size_alloc] at hs10
  have BS10 := Hid.intro ((hg10.block S lS9).trans BS9.out)
  have BQ10 := Hid.intro ((hg10.block Q lQ9).trans BQ9.out)
  have BHo10 := Hid.intro ((hg10.block Ho lHo9).trans BHo9.out)
  have BTr10 := Hid.intro ((hg10.block Tr lTr9).trans BTr9.out)
  have BTh10 := Hid.intro ((hg10.block Th lTh9).trans BTh9.out)
  have BEl10 := Hid.intro ((hg10.block El lEl9).trans BEl9.out)
  have BX10 := Hid.intro ((hg10.block X lX9).trans BX9.out)
  have BXr10 := Hid.intro ((hg10.block Xr lXr9).trans BXr9.out)
  have BY10 := Hid.intro ((hg10.block Y lY9).trans BY9.out)
  have BYr10 := Hid.intro ((hg10.block Yr lYr9).trans BYr9.out)
  have BZb10 := Hid.intro ((hg10.block Zb lZb9).trans BZb9.out)
  have BZr10 := Hid.intro ((hg10.block Zr lZr9).trans BZr9.out)
  have BTb10 := Hid.intro ((hg10.block Tb lTb9).trans BTb9.out)
  have BTt10 := Hid.intro ((hg10.block Tt lTt9).trans BTt9.out)
  have HS10 := Hid.intro (HS9.out.below hg10)
  have HR10 := Hid.intro (HR9.out.below hg10)
  have HM10 := Hid.intro (HM9.out.below hg10)
  have HRt10 := Hid.intro (HRt9.out.below hg10)
  have HRw10 := Hid.intro (HRw9.out.below hg10)
  have HRe10 := Hid.intro (HRe9.out.below hg10)
  have HXo10 := Hid.intro (HXo9.out.below hg10)
  have HYo10 := Hid.intro (HYo9.out.below hg10)
  have HZbo10 := Hid.intro (HZbo9.out.below hg10)
  have HTbo10 := Hid.intro (HTbo9.out.below hg10)
  have HUbo10 := Hid.intro (HUbo9.out.below hg10)
  have hB10 := hB9.trans (hg10.mono hB9.size)
  have lS10 : S < w10.heap.size := by omega
  have lQ10 : Q < w10.heap.size := by omega
  have lHo10 : Ho < w10.heap.size := by omega
  have lTr10 : Tr < w10.heap.size := by omega
  have lTh10 : Th < w10.heap.size := by omega
  have lEl10 : El < w10.heap.size := by omega
  have lX10 : X < w10.heap.size := by omega
  have lXr10 : Xr < w10.heap.size := by omega
  have lY10 : Y < w10.heap.size := by omega
  have lYr10 : Yr < w10.heap.size := by omega
  have lZb10 : Zb < w10.heap.size := by omega
  have lZr10 : Zr < w10.heap.size := by omega
  have lTb10 : Tb < w10.heap.size := by omega
  have lTt10 : Tt < w10.heap.size := by omega
  have bUb : w10.heap[w9.heap.size]? = some (.cells #[.slice kaw us.words.length kam, .slice kah us.holds.length kan] 28 (0, 0)) := (hb10.block _ (by simp; omega)).trans (two_at0 _ _ _)
  obtain ⟨Ub, eUb⟩ : ∃ v, v = w9.heap.size := ⟨_, rfl⟩
  have bUr : w10.heap[w9.heap.size + 1]? = some (.cells #[.int .i64 ur.id, .int .i64 ur.code, .slice kax ur.data.length kak] 34 (0, 0)) := (hb10.block _ (by simp)).trans (two_at1 _ _ _)
  obtain ⟨Ur, eUr⟩ : ∃ v, v = w9.heap.size + 1 := ⟨_, rfl⟩
  rw [← eUr] at bUr ⊢
  rw [← eUb] at bUb ⊢
  have lUb10 : Ub < w10.heap.size := by omega
  have lUr10 : Ur < w10.heap.size := by omega
  have BUb10 := Hid.intro bUb
  have BUr10 := Hid.intro bUr
  clear BS9 lS9 BQ9 lQ9 BHo9 lHo9 BTr9 lTr9 BTh9 lTh9 BEl9 lEl9 BX9 lX9 BXr9 lXr9 BY9 lY9 BYr9 lYr9 BZb9 lZb9 BZr9 lZr9 BTb9 lTb9 BTt9 lTt9 HS9 HR9 HM9 HRt9 HRw9 HRe9 HXo9 HYo9 HZbo9 HTbo9 HUbo9 hB9 bUb eUb bUr eUr hb10 hg10 hs10 cTr0 cTr1 cTr2 cTr3 cTr4 cTr5 cTr6
  have HVbo10 := Hid.intro hO
  clear hO Z6
  have cY0 : w10.cell? ⟨Y, 0, none⟩ = some (.slice qw ys.words.length qm) := heap_cell BY10.out 0
  have cY1 : w10.cell? ⟨Y, 1, none⟩ = some (.slice qh ys.holds.length qn) := heap_cell BY10.out 1
  have cTr0 : w10.cell? ⟨Tr, 0, none⟩ = some (.int .i64 r.id) := heap_cell BTr10.out 0
  have cTr1 : w10.cell? ⟨Tr, 1, none⟩ = some (.int .i64 4) := heap_cell BTr10.out 1
  have cTr2 : w10.cell? ⟨Tr, 2, none⟩ = some (.int .i64 r.addr) := heap_cell BTr10.out 2
  have cTr3 : w10.cell? ⟨Tr, 3, none⟩ = some (.int .i64 1) := heap_cell BTr10.out 3
  have cTr4 : w10.cell? ⟨Tr, 4, none⟩ = some (.bool false) := heap_cell BTr10.out 4
  have cTr5 : w10.cell? ⟨Tr, 5, none⟩ = some (.slice (some ⟨Da, 0, none⟩) 1 1) := heap_cell BTr10.out 5
  have cTr6 : w10.cell? ⟨Tr, 6, none⟩ = some (.slice (some ⟨Db, 0, none⟩) 1 1) := heap_cell BTr10.out 6
  unfold stV rspV
  go_wp2_with fail
  first | rw [← Hoth.out] | skip
  refine (atmF_at HC.out Z7.out (ms := ms1) (HM10.out.below (below_two _ _ _)) (by decide) (by omega) (HYo10.out.st.below (below_two _ _ _)) (r := tryQ r.id r.addr) (HRt10.out.below (below_two _ _ _))).mono ?_
  rintro e w11 ⟨tw, tm, th, tn, tx, tk, rfl, hO, hb11⟩
  have hg11 : Below w10.heap.size w10 w11 := Below.trans (below_two w10 _ _) (hb11.mono (by simp; omega))
  have hs11 := hb11.size
  simp only [World.size_alloc] at hs11
  have BS11 := Hid.intro ((hg11.block S lS10).trans BS10.out)
  have BQ11 := Hid.intro ((hg11.block Q lQ10).trans BQ10.out)
  have BHo11 := Hid.intro ((hg11.block Ho lHo10).trans BHo10.out)
  have BTr11 := Hid.intro ((hg11.block Tr lTr10).trans BTr10.out)
  have BTh11 := Hid.intro ((hg11.block Th lTh10).trans BTh10.out)
  have BEl11 := Hid.intro ((hg11.block El lEl10).trans BEl10.out)
  have BX11 := Hid.intro ((hg11.block X lX10).trans BX10.out)
  have BXr11 := Hid.intro ((hg11.block Xr lXr10).trans BXr10.out)
  have BY11 := Hid.intro ((hg11.block Y lY10).trans BY10.out)
  have BYr11 := Hid.intro ((hg11.block Yr lYr10).trans BYr10.out)
  have BZb11 := Hid.intro ((hg11.block Zb lZb10).trans BZb10.out)
  have BZr11 := Hid.intro ((hg11.block Zr lZr10).trans BZr10.out)
  have BTb11 := Hid.intro ((hg11.block Tb lTb10).trans BTb10.out)
  have BTt11 := Hid.intro ((hg11.block Tt lTt10).trans BTt10.out)
  have BUb11 := Hid.intro ((hg11.block Ub lUb10).trans BUb10.out)
  have BUr11 := Hid.intro ((hg11.block Ur lUr10).trans BUr10.out)
  have HS11 := Hid.intro (HS10.out.below hg11)
  have HR11 := Hid.intro (HR10.out.below hg11)
  have HM11 := Hid.intro (HM10.out.below hg11)
  have HRt11 := Hid.intro (HRt10.out.below hg11)
  have HRw11 := Hid.intro (HRw10.out.below hg11)
  have HRe11 := Hid.intro (HRe10.out.below hg11)
  have HXo11 := Hid.intro (HXo10.out.below hg11)
  have HYo11 := Hid.intro (HYo10.out.below hg11)
  have HZbo11 := Hid.intro (HZbo10.out.below hg11)
  have HTbo11 := Hid.intro (HTbo10.out.below hg11)
  have HUbo11 := Hid.intro (HUbo10.out.below hg11)
  have HVbo11 := Hid.intro (HVbo10.out.below hg11)
  have hB11 := hB10.trans (hg11.mono hB10.size)
  have lS11 : S < w11.heap.size := by omega
  have lQ11 : Q < w11.heap.size := by omega
  have lHo11 : Ho < w11.heap.size := by omega
  have lTr11 : Tr < w11.heap.size := by omega
  have lTh11 : Th < w11.heap.size := by omega
  have lEl11 : El < w11.heap.size := by omega
  have lX11 : X < w11.heap.size := by omega
  have lXr11 : Xr < w11.heap.size := by omega
  have lY11 : Y < w11.heap.size := by omega
  have lYr11 : Yr < w11.heap.size := by omega
  have lZb11 : Zb < w11.heap.size := by omega
  have lZr11 : Zr < w11.heap.size := by omega
  have lTb11 : Tb < w11.heap.size := by omega
  have lTt11 : Tt < w11.heap.size := by omega
  have lUb11 : Ub < w11.heap.size := by omega
  have lUr11 : Ur < w11.heap.size := by omega
  have bVb : w11.heap[w10.heap.size]? = some (.cells #[.slice jw vs.words.length jm, .slice jh vs.holds.length jn] 28 (0, 0)) := (hb11.block _ (by simp; omega)).trans (two_at0 _ _ _)
  obtain ⟨Vb, eVb⟩ : ∃ v, v = w10.heap.size := ⟨_, rfl⟩
  have bVr : w11.heap[w10.heap.size + 1]? = some (.cells #[.int .i64 vr.id, .int .i64 vr.code, .slice jx vr.data.length jk] 34 (0, 0)) := (hb11.block _ (by simp)).trans (two_at1 _ _ _)
  obtain ⟨Vr, eVr⟩ : ∃ v, v = w10.heap.size + 1 := ⟨_, rfl⟩
  rw [← eVr] at bVr ⊢
  rw [← eVb] at bVb ⊢
  have lVb11 : Vb < w11.heap.size := by omega
  have lVr11 : Vr < w11.heap.size := by omega
  have BVb11 := Hid.intro bVb
  have BVr11 := Hid.intro bVr
  clear BS10 lS10 BQ10 lQ10 BHo10 lHo10 BTr10 lTr10 BTh10 lTh10 BEl10 lEl10 BX10 lX10 BXr10 lXr10 BY10 lY10 BYr10 lYr10 BZb10 lZb10 BZr10 lZr10 BTb10 lTb10 BTt10 lTt10 BUb10 lUb10 BUr10 lUr10 HS10 HR10 HM10 HRt10 HRw10 HRe10 HXo10 HYo10 HZbo10 HTbo10 HUbo10 HVbo10 hB10 bVb eVb bVr eVr hb11 hg11 hs11 cY0 cY1 cTr0 cTr1 cTr2 cTr3 cTr4 cTr5 cTr6
  have HGb2o11 := Hid.intro hO
  clear hO Z7
  obtain ⟨cy, ⟨hj, ej⟩, ct, cv, ca⟩ := HAll.out
  obtain ⟨j, ea⟩ : ∃ j : Nat, r.addr = (j : Int) := ⟨r.addr.toNat, by omega⟩
  have hj2 : j < ys.words.length := by omega
  have ej2 : ys.words[j] = 77 := by simpa [ea] using ej
  have cQ2 : w11.cell? ⟨Q, 2, none⟩ = some (.int .i64 (j : Int)) := (heap_cell BQ11.out 2).trans (by rw [ea]; rfl)
  have cYr0 : w11.cell? ⟨Yr, 0, none⟩ = some (.int .i64 yr.id) := heap_cell BYr11.out 0
  have cYr1 : w11.cell? ⟨Yr, 1, none⟩ = some (.int .i64 yr.code) := heap_cell BYr11.out 1
  have cYr2 : w11.cell? ⟨Yr, 2, none⟩ = some (.slice qx yr.data.length qk) := heap_cell BYr11.out 2
  have cY0 : w11.cell? ⟨Y, 0, none⟩ = some (.slice qw ys.words.length qm) := heap_cell BY11.out 0
  have cY1 : w11.cell? ⟨Y, 1, none⟩ = some (.slice qh ys.holds.length qn) := heap_cell BY11.out 1
  have cTt0 : w11.cell? ⟨Tt, 0, none⟩ = some (.int .i64 tr.id) := heap_cell BTt11.out 0
  have cTt1 : w11.cell? ⟨Tt, 1, none⟩ = some (.int .i64 tr.code) := heap_cell BTt11.out 1
  have cTt2 : w11.cell? ⟨Tt, 2, none⟩ = some (.slice vx tr.data.length vk) := heap_cell BTt11.out 2
  have cVr0 : w11.cell? ⟨Vr, 0, none⟩ = some (.int .i64 vr.id) := heap_cell BVr11.out 0
  have cVr1 : w11.cell? ⟨Vr, 1, none⟩ = some (.int .i64 vr.code) := heap_cell BVr11.out 1
  have cVr2 : w11.cell? ⟨Vr, 2, none⟩ = some (.slice jx vr.data.length jk) := heap_cell BVr11.out 2
  rcases HYo11.out.st.words with hx | ⟨b1, f1, e1, g3, hcs⟩
  · rw [hx] at hj2; simp at hj2
  have u1 := hcs j hj2
  rw [ej2] at u1
  subst e1
  have n1 : (yr.code == 2) = true := by simpa using cy
  have n2 : (tr.code == 1) = true := by simpa using ct
  have n3 : (vr.code == 2) = true := by simpa using cv
  have n4 : (ar.code == 1) = true := by simpa using ca
  have j0 : (0 : Int) ≤ (j : Int) := by omega
  have j1 : (j : Int) < (ys.words.length : Int) := by omega
  clear cy ct cv ca hcs ej ea ej2 hj hj2 HAll
  unfold stV rspV
  go_wp2
  go_ret
  exact ⟨by first | rfl | simp [n1, n2, n3, n4], (hB11.trans ((below_two w11 _ _).mono hB11.size))⟩

end Go.Proofs.Ytcjlmdjiddadfaa

/-
  Proved: to hold and to try is to swap. At every two codes (rows of bytes of any length) the law answers true and leaves its arguments as they were. No condition.
-/
namespace Go.Proofs.Ytcjlmdjiddadfaa.fnAtmTry
open Go.ChangeShapes Go.WideShapes Go.ChangeAt Go.RowKit
set_option linter.unusedVariables false
set_option linter.unusedSimpArgs false

set_option maxRecDepth 100000 in
theorem lifted (hI : AtmDoC) (os : Os) (started : os.Started) (H : Type) (enc : TypeId × Value → H) :
    ReturnsInHanded {} Try.checked os 6 .any (Rows.fnAtmTrySpec.pre6 enc Try.prog Try.f6 Rows.fnAtmTryRow.domain false) (Rows.fnAtmTrySpec.post enc Try.prog Try.f6 false true false false) := by
  refine returnsInHanded_of_change (C := Try.checked) ownB started (by kernel_rfl) Try.func6
    (ChangeSpec.witness6 (enc := enc) (C := Try.checked) false ⟨#[], #[.slice none 0 0, .slice none 0 0], []⟩ 8 (by kernel_rfl) (by kernel_rfl) (by kernel_rfl) (by kernel_rfl)) ?_
  intro W base args ds gs before hval0 hW hcnd _
  have hval : ∀ (j : Nat) t v, Try.f6.params[j]? = some t → args[j]? = some v → Value.okWide Try.prog W .any base t v := hval0
  have hW' := hW
  obtain ⟨p, q, hA0, hV, rfl, hfz, hnd⟩ := hW
  have hA : DataW.TrodAll enc Try.prog W 0 (fun _ => true) true Try.f6.params.toList args.toList ds p := hA0
  rw [Try.params6] at hA hval
  obtain ⟨v0, vs0, d0, ds0, p0, q0, hargs, rfl, rfl, h0, r0⟩ := trodAll_cons hA
  obtain ⟨v1, vs1, d1, ds1, p1, q1, rfl, rfl, rfl, h1, r1⟩ := trodAll_cons r0
  obtain ⟨rfl, rfl, rfl⟩ := trodAll_nil r1
  obtain rfl : args = #[v0, v1] := by cases args; simp_all
  obtain ⟨rfl, rfl⟩ := trodVars_none hV
  obtain ⟨a0, len0, cap0, rfl⟩ := okWide_slice Try.underlying22 (hval 0 22 v0 rfl rfl)
  obtain ⟨a1, len1, cap1, rfl⟩ := okWide_slice Try.underlying22 (hval 1 22 v1 rfl rfl)
  have k0 := h0
  have lt0 : ∀ x ∈ p0, x.block < W.heap.size := by obtain ⟨m, hm⟩ := k0; exact DataW.trod_lt m _ _ _ hm
  have k1 := h1
  have lt1 : ∀ x ∈ p1, x.block < W.heap.size := by obtain ⟨m, hm⟩ := k1; exact DataW.trod_lt m _ _ _ hm
  obtain ⟨hx, hc, hm⟩ := open_bytes h0
  obtain ⟨hx', hc', hm'⟩ := open_bytes h1
  clear hA0 hval0
  refine (walkC_FnAtmTry hI a0 len0 cap0 a1 len1 cap1 W hc hm hx hc' hm' hx').mono fun e W' ⟨he, bel⟩ => ?_
  subst he
  exact ⟨_, rfl, _, _, _, [], _, [], hW', trodAll_mk1 (shut_bool Try.underlying4 _), (trodAll_cons_mk (Below.trod laidOutC (by kernel_rfl) (of_decide_eq_true (by kernel_rfl)) k0 bel lt0) (trodAll_cons_mk (Below.trod laidOutC (by kernel_rfl) (of_decide_eq_true (by kernel_rfl)) k1 bel lt1) trodAll_mk0)), rfl, bel.frame _, fun h => by cases h⟩

theorem over (hI : AtmDoC) : Rows.fnAtmTryRow.holds Try.pinned (OpenSpec.ofChange Rows.fnAtmTrySpec) :=
  OpenClaim.holds_of_wide 6 Try.f6 rfl rfl rfl rfl rfl rfl rfl ⟨rfl, rfl, rfl, rfl, rfl⟩ rfl rfl rfl rfl rfl (by kernel_rfl) Try.func6 (by kernel_rfl)
    (of_decide_eq_true (by kernel_rfl)) (by unfold Func.isWrapper; first | (rw [if_pos (by decide +kernel)]; kernel_rfl) | (rw [if_neg (by decide +kernel)]; exact ⟨rfl, rfl⟩))
    (fun os started H enc _ => lifted hI os started H enc)

theorem proved_of (hI : AtmDoC) : Rows.FnAtmTrySaid := over hI
end Go.Proofs.Ytcjlmdjiddadfaa.fnAtmTry

namespace Go.Proofs.Ytcjlmdjiddadfaa.fnAtmTry

theorem proved : Rows.FnAtmTrySaid := proved_of impl_AtmDo
end Go.Proofs.Ytcjlmdjiddadfaa.fnAtmTry
