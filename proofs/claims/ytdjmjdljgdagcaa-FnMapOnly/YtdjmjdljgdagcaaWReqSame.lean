/-
  The law FnReqSame, walked, by what ReqSlave of the program answers.
-/
import Derived.Test.YtdjmjdljgdagcaaProg
import Derived.Test.YtdjmjdljgdagcaaDrawReqB
import Derived.Test.YtdjmjdljgdagcaaWReqOk
import Derived.Test.YtdjmjdljgdagcaaReqT
namespace Go.Proofs.Ytdjmjdljgdagcaa
open Go.RowKit
set_option linter.unusedSimpArgs false
set_option linter.unusedVariables false

theorem okAll_get : ∀ (ah l : List Rng), okAll ah l = true → ∀ r ∈ l, rngOkB r = true
  | _, [], _, r, hr => by cases hr
  | ah, x :: l, h, r, hr => by
    simp only [okAll, Bool.and_eq_true] at h
    rcases List.mem_cons.1 hr with rfl | hr
    · exact h.1.1
    · exact okAll_get _ l h.2 r hr
theorem mapOk_sl {ms : List Rng} (h : mapOkB ms = true) (k : Nat) (hk : k < ms.length) : 0 ≤ ms[k].sl ∧ ms[k].sl ≤ 2 := by
  simp only [mapOkB, Bool.and_eq_true] at h
  have := okAll_get [] ms h.2 ms[k] (List.getElem_mem hk)
  simp [rngOkB] at this
  omega
/-- what ReqSlave may be -/
theorem slave_cases (ms : List Rng) (r : Req) : (reqSlaveZ ms r = -1) ∨ (mapOkB ms = true ∧ reqOkB r = true ∧ 0 ≤ reqSlaveZ ms r ∧ reqSlaveZ ms r ≤ 3) := by
  cases h1 : mapOkB ms
  · exact .inl (slave_no (.inl h1))
  cases h2 : reqOkB r
  · exact .inl (slave_no (.inr h2))
  rcases whole_range ms (burst r.addr r.many r.wrap) with h | ⟨k, hk, h⟩
  · rw [slave_none h1 h2 h]; exact .inr ⟨rfl, rfl, by omega, by omega⟩
  · rw [slave_at h1 h2 hk h]
    have := mapOk_sl h1 k hk
    exact .inr ⟨rfl, rfl, by omega, by omega⟩
theorem slave_id (ms : List Rng) {r : Req} (h : reqOkB r = true) : reqSlaveZ ms { r with id := 1 - r.id } = reqSlaveZ ms r := by
  simp only [reqSlaveZ, reqOk_id h, h]
theorem slave_read (ms : List Rng) {r : Req} (h : reqOkB r = true) : reqSlaveZ ms ⟨r.id, 1, r.addr, r.many, r.wrap, [], []⟩ = reqSlaveZ ms r := by
  have hp := reqOk_parts h
  have e : reqOkB ⟨r.id, 1, r.addr, r.many, r.wrap, [], []⟩ = true := by
    simp only [reqOkB, reqHeadB, reqOneB, writesB, reqNoneB, hp.2.1]
    rcases hp.1 with h0 | h0 <;> simp [h0, inB]
  simp only [reqSlaveZ, e, h]

theorem below_new (w : World) (o : Obj) : Below w.heap.size w (w.alloc o) := (Below.refl _ w).alloc (Nat.le_refl _) o

set_option maxRecDepth 100000 in
set_option maxHeartbeats 4000000 in
theorem walkC_FnReqSame (hI : ReqSlaveC) (a : Option Addr) (len cap : Nat) (w : World) (hc : len ≤ cap) (hm : cap ≤ 9223372036854775807) (h : Bytes w w.heap.size a len) :
    Calls Try.prog 8 #[.slice a len cap] w fun e w' => e = .returned (.bool true) ∧ Below w.heap.size w w' := by
  by_cases hl : 1048576 < len
  · have hI1 : (1048576 : Int) < (len : Int) := by omega
    clear h hI
    go_enter Try.func8, Try.ntmps8
    go_wp2
    go_ret
    exact ⟨rfl, Below.refl _ _⟩
  have hI1 : ¬ (1048576 : Int) < (len : Int) := by omega
  have HB := Hid.intro h
  have HC := Hid.intro hI
  clear h hI
  go_enter Try.func8, Try.ntmps8
  go_wp2_with fail
  refine (drawReqSlave_any a len cap w hc hm HB.out).mono ?_
  rintro e w1 ⟨b, c, ms, r, pd, cd, pl, cl, rfl, hM1, hmc, hmm, hm1, hm7, hA1, hl1, hl2, hb1⟩
  obtain ⟨id, kind, addr, many, wrap, data, lanes⟩ := r
  have hs1 := hb1.size
  have H1 := Hid.intro (fun W h1 h2 => HC.out (some ⟨b, 0, none⟩) c ms ⟨id, kind, addr, many, wrap, data, lanes⟩ pd pl cd cl W h1 hmc hmm h2)
  have H2 := Hid.intro (fun W h1 h2 => spec_ReqSlave (some ⟨b, 0, none⟩) c ms ⟨id, kind, addr, many, wrap, data, lanes⟩ pd pl cd cl W h1 hmc hmm h2)
  unfold reqV at H1 H2 ⊢
  simp only at hl1 hl2
  have hba := below_new w1
  go_wp2_with fail
  refine (H1.out _ (hM1.below (hba _)) (hA1.below (hba _))).mono ?_
  rintro e w2 ⟨rfl, hb2⟩
  have hs2 := hb2.size
  simp at hs2
  have hbox2 : w2.heap[w1.heap.size]? = some (.cells #[.int .i64 id, .int .i64 kind, .int .i64 addr, .int .i64 many, .bool wrap, (.slice pd data.length cd), (.slice pl lanes.length cl)] 33 (0, 0)) := (hb2.block w1.heap.size (by simp)).trans (at_new _ rfl)
  have hb2' := (hb1.trans ((hba _).mono hb1.size)).trans (hb2.mono (by simp; omega))
  have hA2 := (hA1.below (hba _)).below hb2
  have hM2 := (hM1.below (hba _)).below hb2
  obtain ⟨A, hA⟩ : ∃ A, A = w1.heap.size := ⟨_, rfl⟩
  rw [← hA] at hs2 hbox2 ⊢
  clear hA hb2 hA1 hM1 hb1 hs1 hba
  have c0 : w2.cell? ⟨A, 0, none⟩ = some (.int .i64 id) := heap_cell hbox2 0
  have c1 : w2.cell? ⟨A, 1, none⟩ = some (.int .i64 kind) := heap_cell hbox2 1
  have c2 : w2.cell? ⟨A, 2, none⟩ = some (.int .i64 addr) := heap_cell hbox2 2
  have c3 : w2.cell? ⟨A, 3, none⟩ = some (.int .i64 many) := heap_cell hbox2 3
  have c4 : w2.cell? ⟨A, 4, none⟩ = some (.bool wrap) := heap_cell hbox2 4
  have c5 : w2.cell? ⟨A, 5, none⟩ = some (.slice pd data.length cd) := heap_cell hbox2 5
  have c6 : w2.cell? ⟨A, 6, none⟩ = some (.slice pl lanes.length cl) := heap_cell hbox2 6
  go_wp2_with fail
  refine (H2.out w2 hM2 hA2).mono ?_
  rintro e w3 ⟨rfl, hb3⟩
  have hs3 := hb3.size
  have hbox3 := (hb3.block A (by omega)).trans hbox2
  have hA3 := hA2.below hb3
  have hM3 := hM2.below hb3
  have hb3' := hb2'.trans (hb3.mono hb2'.size)
  have hAl : A < w3.heap.size := by omega
  clear hb3 c0 c1 c2 c3 c4 c5 c6 hb2' hA2 hM2 hbox2 H1 H2
  have c0 : w3.cell? ⟨A, 0, none⟩ = some (.int .i64 id) := heap_cell hbox3 0
  have c1 : w3.cell? ⟨A, 1, none⟩ = some (.int .i64 kind) := heap_cell hbox3 1
  have c2 : w3.cell? ⟨A, 2, none⟩ = some (.int .i64 addr) := heap_cell hbox3 2
  have c3 : w3.cell? ⟨A, 3, none⟩ = some (.int .i64 many) := heap_cell hbox3 3
  have c4 : w3.cell? ⟨A, 4, none⟩ = some (.bool wrap) := heap_cell hbox3 4
  have c5 : w3.cell? ⟨A, 5, none⟩ = some (.slice pd data.length cd) := heap_cell hbox3 5
  have c6 : w3.cell? ⟨A, 6, none⟩ = some (.slice pl lanes.length cl) := heap_cell hbox3 6
  rcases slave_cases ms ⟨id, kind, addr, many, wrap, data, lanes⟩ with hneg | ⟨_, hok, hn0, hn3⟩
  · rw [hneg]
    clear hA3 hM3
    go_wp2_with (go_at_call 19; refine (crOk_any _).mono ?_; rintro e w' ⟨rfl, rfl⟩)
    go_ret
    exact ⟨rfl, hb3'⟩
  obtain ⟨hid, _, _⟩ := reqOk_parts hok
  simp only at hid
  have hid0 : (0 : Int) ≤ id := by omega
  have hid1 : id ≤ 1 := by omega
  have hX := slave_id ms hok
  have hY := slave_read ms hok
  simp only at hX hY
  obtain ⟨n, hn⟩ : ∃ n, n = reqSlaveZ ms ⟨id, kind, addr, many, wrap, data, lanes⟩ := ⟨_, rfl⟩
  rw [← hn] at hX hY hn0 hn3 ⊢
  have hnI : ¬ (n < 0) := by omega
  clear hn hok hid
  have hAa : A < w3.heap.size + 1 := by omega
  have hAb : A < w3.heap.size + 1 + 1 := by omega
  have hb0 : ∀ o o', Below w3.heap.size w3 ((w3.alloc o).alloc o') := fun o o' => ((Below.refl _ w3).alloc (Nat.le_refl _) o).alloc (by simp) o'
  have HA3 := Hid.intro hA3
  have HM3 := Hid.intro hM3
  have HX := Hid.intro hX
  have HY := Hid.intro hY
  have HB3 := Hid.intro hb3'
  have Hbox := Hid.intro hbox3
  clear hA3 hM3 hX hY hb3' hbox3
  go_wp2_with fail
  refine (HC.out (some ⟨b, 0, none⟩) c ms ⟨1 - id, kind, addr, many, wrap, data, lanes⟩ pd pl cd cl _ (HM3.out.below (hb0 _ _)) hmc hmm ⟨(HA3.out.below (hb0 _ _)).data, (HA3.out.below (hb0 _ _)).lanes, HA3.out.cd1, HA3.out.cd2, HA3.out.cl1, HA3.out.cl2⟩).mono ?_
  rintro e w4 ⟨rfl, hb4⟩
  rw [HX.out]
  have hs4 := hb4.size
  simp at hs4
  have hbY : w4.heap[w3.heap.size + 1]? = some (.cells #[.int .i64 id, .int .i64 1, .int .i64 addr, .int .i64 many, .bool wrap, (.slice none 0 0), (.slice none 0 0)] 33 (0, 0)) := (hb4.block (w3.heap.size + 1) (by simp)).trans (at_new _ (by simp))
  have y0 : w4.cell? ⟨w3.heap.size + 1, 0, none⟩ = some (.int .i64 id) := heap_cell hbY 0
  have y1 : w4.cell? ⟨w3.heap.size + 1, 1, none⟩ = some (.int .i64 1) := heap_cell hbY 1
  have y2 : w4.cell? ⟨w3.heap.size + 1, 2, none⟩ = some (.int .i64 addr) := heap_cell hbY 2
  have y3 : w4.cell? ⟨w3.heap.size + 1, 3, none⟩ = some (.int .i64 many) := heap_cell hbY 3
  have y4 : w4.cell? ⟨w3.heap.size + 1, 4, none⟩ = some (.bool wrap) := heap_cell hbY 4
  have y5 : w4.cell? ⟨w3.heap.size + 1, 5, none⟩ = some (.slice none 0 0) := heap_cell hbY 5
  have y6 : w4.cell? ⟨w3.heap.size + 1, 6, none⟩ = some (.slice none 0 0) := heap_cell hbY 6
  have hb4' := (hb0 _ _).trans (hb4.mono (hb0 _ _).size)
  have hM4 := HM3.out.below hb4'
  have HB4 := Hid.intro (HB3.out.trans (hb4'.mono HB3.out.size))
  clear hb4 hbY
  go_wp2_with fail
  refine (HC.out (some ⟨b, 0, none⟩) c ms ⟨id, 1, addr, many, wrap, [], []⟩ none none 0 0 w4 hM4 hmc hmm ⟨.inl rfl, .inl rfl, by simp, by simp, by simp, by simp⟩).mono ?_
  rintro e w5 ⟨rfl, hb5⟩
  rw [HY.out]
  have HB5 := Hid.intro (HB4.out.trans (hb5.mono HB4.out.size))
  clear hb5 hM4 hb4'
  go_wp2
  go_ret
  exact ⟨rfl, HB5.out⟩

end Go.Proofs.Ytdjmjdljgdagcaa
