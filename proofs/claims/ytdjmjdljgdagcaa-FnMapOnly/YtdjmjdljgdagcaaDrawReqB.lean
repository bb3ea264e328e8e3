/-
  spec's DrawReqOk and DrawReqSlave.
-/
import Derived.Test.YtdjmjdljgdagcaaProg
import Derived.Test.YtdjmjdljgdagcaaDrawReq
import Derived.Test.YtdjmjdljgdagcaaMapD
namespace Go.Proofs.Ytdjmjdljgdagcaa
open Go.RowKit
set_option linter.unusedSimpArgs false
set_option linter.unusedVariables false

theorem bytes_alloc {w : World} {a : Option Addr} {len : Nat} (h : Bytes w w.heap.size a len) (o : Obj) : Bytes (w.alloc o) (w.alloc o).heap.size a len := by
  rcases h with h | ⟨b, off, h1, h2, h3⟩
  · exact .inl h
  · exact .inr ⟨b, off, h1, by simp; omega, fun i hi => by
      obtain ⟨n, g1, g2, g3⟩ := h3 i hi
      exact ⟨n, g1, g2, (((Below.refl _ w).alloc (Nat.le_refl _) o).cell (p := ⟨b, off + i, none⟩) h2).trans g3⟩⟩

/-- seven stores into a variable of zeros -/
theorem fin7 {w : World} {b : Nat} {a0 a1 a2 a3 a4 a5 a6 : Value} (h : w.heap[b]? = some (.cells #[.int .i64 0, .int .i64 0, .int .i64 0, .int .i64 0, .bool false, .slice none 0 0, .slice none 0 0] 33 (0, 0))) :
    (∀ k, k ≠ b → (((((((w.setCell ⟨b, 0, none⟩ a0).setCell ⟨b, 1, none⟩ a1).setCell ⟨b, 2, none⟩ a2).setCell ⟨b, 3, none⟩ a3).setCell ⟨b, 4, none⟩ a4).setCell ⟨b, 5, none⟩ a5).setCell ⟨b, 6, none⟩ a6).heap[k]? = w.heap[k]?) ∧ (((((((w.setCell ⟨b, 0, none⟩ a0).setCell ⟨b, 1, none⟩ a1).setCell ⟨b, 2, none⟩ a2).setCell ⟨b, 3, none⟩ a3).setCell ⟨b, 4, none⟩ a4).setCell ⟨b, 5, none⟩ a5).setCell ⟨b, 6, none⟩ a6).cell? ⟨b, 0, none⟩ = some a0 ∧ (((((((w.setCell ⟨b, 0, none⟩ a0).setCell ⟨b, 1, none⟩ a1).setCell ⟨b, 2, none⟩ a2).setCell ⟨b, 3, none⟩ a3).setCell ⟨b, 4, none⟩ a4).setCell ⟨b, 5, none⟩ a5).setCell ⟨b, 6, none⟩ a6).cell? ⟨b, 1, none⟩ = some a1 ∧ (((((((w.setCell ⟨b, 0, none⟩ a0).setCell ⟨b, 1, none⟩ a1).setCell ⟨b, 2, none⟩ a2).setCell ⟨b, 3, none⟩ a3).setCell ⟨b, 4, none⟩ a4).setCell ⟨b, 5, none⟩ a5).setCell ⟨b, 6, none⟩ a6).cell? ⟨b, 2, none⟩ = some a2 ∧ (((((((w.setCell ⟨b, 0, none⟩ a0).setCell ⟨b, 1, none⟩ a1).setCell ⟨b, 2, none⟩ a2).setCell ⟨b, 3, none⟩ a3).setCell ⟨b, 4, none⟩ a4).setCell ⟨b, 5, none⟩ a5).setCell ⟨b, 6, none⟩ a6).cell? ⟨b, 3, none⟩ = some a3 ∧ (((((((w.setCell ⟨b, 0, none⟩ a0).setCell ⟨b, 1, none⟩ a1).setCell ⟨b, 2, none⟩ a2).setCell ⟨b, 3, none⟩ a3).setCell ⟨b, 4, none⟩ a4).setCell ⟨b, 5, none⟩ a5).setCell ⟨b, 6, none⟩ a6).cell? ⟨b, 4, none⟩ = some a4 ∧ (((((((w.setCell ⟨b, 0, none⟩ a0).setCell ⟨b, 1, none⟩ a1).setCell ⟨b, 2, none⟩ a2).setCell ⟨b, 3, none⟩ a3).setCell ⟨b, 4, none⟩ a4).setCell ⟨b, 5, none⟩ a5).setCell ⟨b, 6, none⟩ a6).cell? ⟨b, 5, none⟩ = some a5 ∧ (((((((w.setCell ⟨b, 0, none⟩ a0).setCell ⟨b, 1, none⟩ a1).setCell ⟨b, 2, none⟩ a2).setCell ⟨b, 3, none⟩ a3).setCell ⟨b, 4, none⟩ a4).setCell ⟨b, 5, none⟩ a5).setCell ⟨b, 6, none⟩ a6).cell? ⟨b, 6, none⟩ = some a6 := by
  have hf : (((((((w.setCell ⟨b, 0, none⟩ a0).setCell ⟨b, 1, none⟩ a1).setCell ⟨b, 2, none⟩ a2).setCell ⟨b, 3, none⟩ a3).setCell ⟨b, 4, none⟩ a4).setCell ⟨b, 5, none⟩ a5).setCell ⟨b, 6, none⟩ a6).heap[b]? = some (.cells #[a0, a1, a2, a3, a4, a5, a6] 33 (0, 0)) := by
    have := heap_set (heap_set (heap_set (heap_set (heap_set (heap_set (heap_set h 0 a0) 1 a1) 2 a2) 3 a3) 4 a4) 5 a5) 6 a6
    simpa using this
  exact ⟨fun k hk => (heap_set_ne hk).trans ((heap_set_ne hk).trans ((heap_set_ne hk).trans ((heap_set_ne hk).trans ((heap_set_ne hk).trans ((heap_set_ne hk).trans (heap_set_ne hk)))))), heap_cell hf 0, heap_cell hf 1, heap_cell hf 2, heap_cell hf 3, heap_cell hf 4, heap_cell hf 5, heap_cell hf 6⟩
theorem below7 {n b : Nat} {w0 w : World} {a0 a1 a2 a3 a4 a5 a6 : Value} (h : Below n w0 w) (hb : n ≤ b) : Below n w0 (((((((w.setCell ⟨b, 0, none⟩ a0).setCell ⟨b, 1, none⟩ a1).setCell ⟨b, 2, none⟩ a2).setCell ⟨b, 3, none⟩ a3).setCell ⟨b, 4, none⟩ a4).setCell ⟨b, 5, none⟩ a5).setCell ⟨b, 6, none⟩ a6) :=
  ((((((h.setCell (p := ⟨b, 0, none⟩) hb _).setCell (p := ⟨b, 1, none⟩) hb _).setCell (p := ⟨b, 2, none⟩) hb _).setCell (p := ⟨b, 3, none⟩) hb _).setCell (p := ⟨b, 4, none⟩) hb _).setCell (p := ⟨b, 5, none⟩) hb _).setCell (p := ⟨b, 6, none⟩) hb _

set_option maxHeartbeats 1000000 in
theorem drawReqOk_any (a : Option Addr) (len cap : Nat) (w : World) (hc : len ≤ cap) (hm : cap ≤ 9223372036854775807) (h : Bytes w w.heap.size a len) :
    Calls Try.prog 20 #[.slice a len cap] w fun e w' => ∃ (r : Req) (pd : Option Addr) (cd : Nat) (pl : Option Addr) (cl : Nat), e = .returned (reqV r pd cd pl cl) ∧ ReqAt w' r pd cd pl cl ∧ r.data.length ≤ 10 ∧ r.lanes.length ≤ 10 ∧ Below w.heap.size w w' := by
  go_enter Try.func20, Try.ntmps20
  go_wp2_with fail
  have hbl : ∀ o, Below w.heap.size w (w.alloc o) := fun o => (Below.refl _ w).alloc (Nat.le_refl _) o
  refine (open_any a len cap _ hc hm (bytes_alloc h _)).mono ?_
  rintro e w1 ⟨rfl, hr1, hb1⟩
  have hs1 := hb1.size
  simp only [World.size_alloc] at hr1 hs1 ⊢
  have cR : w1.heap[w.heap.size]? = some (.cells #[.int .i64 0, .int .i64 0, .int .i64 0, .int .i64 0, .bool false, .slice none 0 0, .slice none 0 0] 33 (0, 0)) := (hb1.block w.heap.size (by simp)).trans (by show (w.heap.push _)[w.heap.size]? = _; simp)
  have hb1' := (hbl _).trans (hb1.mono (hbl _).size)
  clear hb1
  go_wp2_with fail
  refine (l20Req_any (w.heap.size + 1) 0 2 w1 hr1 (by omega) (by omega) (by omega)).mono ?_
  rintro e w2 ⟨v, rfl, r, pd, cd, pl, cl, p', rfl, hA, hl1, hl2, hr2, hp', hK, hn1, hn2⟩
  have hlt := hr1.lt
  have cR2 := (hK.block w.heap.size (by omega) (by omega)).trans cR
  have hb2 : Below w.heap.size w w2 := hb1'.trans (hK.below (by omega) (by omega))
  have q0 : w2.cell? ⟨w.heap.size, 0, none⟩ = some (.int .i64 0) := heap_cell cR2 0
  have g0 : w2.frozen? ⟨w.heap.size, 0, none⟩ = false := heap_free cR2 0
  have q1 : w2.cell? ⟨w.heap.size, 1, none⟩ = some (.int .i64 0) := heap_cell cR2 1
  have g1 : w2.frozen? ⟨w.heap.size, 1, none⟩ = false := heap_free cR2 1
  have q2 : w2.cell? ⟨w.heap.size, 2, none⟩ = some (.int .i64 0) := heap_cell cR2 2
  have g2 : w2.frozen? ⟨w.heap.size, 2, none⟩ = false := heap_free cR2 2
  have q3 : w2.cell? ⟨w.heap.size, 3, none⟩ = some (.int .i64 0) := heap_cell cR2 3
  have g3 : w2.frozen? ⟨w.heap.size, 3, none⟩ = false := heap_free cR2 3
  have q4 : w2.cell? ⟨w.heap.size, 4, none⟩ = some (.bool false) := heap_cell cR2 4
  have g4 : w2.frozen? ⟨w.heap.size, 4, none⟩ = false := heap_free cR2 4
  have q5 : w2.cell? ⟨w.heap.size, 5, none⟩ = some (.slice none 0 0) := heap_cell cR2 5
  have g5 : w2.frozen? ⟨w.heap.size, 5, none⟩ = false := heap_free cR2 5
  have q6 : w2.cell? ⟨w.heap.size, 6, none⟩ = some (.slice none 0 0) := heap_cell cR2 6
  have g6 : w2.frozen? ⟨w.heap.size, 6, none⟩ = false := heap_free cR2 6
  obtain ⟨hblk, r0, r1, r2, r3, r4, r5, r6⟩ := fin7 (a0 := (.int .i64 r.id)) (a1 := (.int .i64 r.kind)) (a2 := (.int .i64 r.addr)) (a3 := (.int .i64 r.many)) (a4 := (.bool r.wrap)) (a5 := (.slice pd r.data.length cd)) (a6 := (.slice pl r.lanes.length cl)) cR2
  have hA' : ReqAt (((((((w2.setCell ⟨w.heap.size, 0, none⟩ (.int .i64 r.id)).setCell ⟨w.heap.size, 1, none⟩ (.int .i64 r.kind)).setCell ⟨w.heap.size, 2, none⟩ (.int .i64 r.addr)).setCell ⟨w.heap.size, 3, none⟩ (.int .i64 r.many)).setCell ⟨w.heap.size, 4, none⟩ (.bool r.wrap)).setCell ⟨w.heap.size, 5, none⟩ (.slice pd r.data.length cd)).setCell ⟨w.heap.size, 6, none⟩ (.slice pl r.lanes.length cl)) r pd cd pl cl := ⟨hA.data.of (by simp) (fun b off e _ => hblk b (by have := hn1 b off e; omega)), hA.lanes.of (by simp) (fun b off e _ => hblk b (by have := hn2 b off e; omega)), hA.cd1, hA.cd2, hA.cl1, hA.cl2⟩
  have HA := Hid.intro hA'
  have HB := Hid.intro (below7 (a0 := (.int .i64 r.id)) (a1 := (.int .i64 r.kind)) (a2 := (.int .i64 r.addr)) (a3 := (.int .i64 r.many)) (a4 := (.bool r.wrap)) (a5 := (.slice pd r.data.length cd)) (a6 := (.slice pl r.lanes.length cl)) hb2 (Nat.le_refl _))
  clear hA hA' hb2 hK hr2 hb1' cR cR2 hblk hn1 hn2
  unfold reqV
  go_wp2
  refine bodyPost_ret (v := reqV r pd cd pl cl) (by simp [results, Try.results20, go_sem, r0, r1, r2, r3, r4, r5, r6, reqV]) rfl ⟨r, pd, cd, pl, cl, rfl, HA.out, hl1, hl2, HB.out⟩

set_option maxHeartbeats 1000000 in
theorem drawReqSlave_any (a : Option Addr) (len cap : Nat) (w : World) (hc : len ≤ cap) (hm : cap ≤ 9223372036854775807) (h : Bytes w w.heap.size a len) :
    Calls Try.prog 23 #[.slice a len cap] w fun e w' => ∃ (b c : Nat) (ms : List Rng) (r : Req) (pd : Option Addr) (cd : Nat) (pl : Option Addr) (cl : Nat), e = .returned (.tuple #[.slice (some ⟨b, 0, none⟩) ms.length c, reqV r pd cd pl cl]) ∧ RowOf w' (some ⟨b, 0, none⟩) ms ∧ ms.length ≤ c ∧ c ≤ 9223372036854775807 ∧ 1 ≤ ms.length ∧ ms.length ≤ 7 ∧
      ReqAt w' r pd cd pl cl ∧ r.data.length ≤ 10 ∧ r.lanes.length ≤ 10 ∧ Below w.heap.size w w' := by
  go_enter Try.func23, Try.ntmps23
  go_wp2_with fail
  have hbl : ∀ o, Below w.heap.size w (w.alloc o) := fun o => (Below.refl _ w).alloc (Nat.le_refl _) o
  refine (open_any a len cap _ hc hm (bytes_alloc h _)).mono ?_
  rintro e w1 ⟨rfl, hr1, hb1⟩
  have hs1 := hb1.size
  simp only [World.size_alloc] at hr1 hs1 ⊢
  have cR : w1.heap[w.heap.size]? = some (.cells #[.int .i64 0, .int .i64 0, .int .i64 0, .int .i64 0, .bool false, .slice none 0 0, .slice none 0 0] 33 (0, 0)) := (hb1.block w.heap.size (by simp)).trans (by show (w.heap.push _)[w.heap.size]? = _; simp)
  have hb1' := (hbl _).trans (hb1.mono (hbl _).size)
  clear hb1
  go_wp2_with fail
  refine (l20Map_any (w.heap.size + 1) 0 9 w1 hr1 (by omega) (by omega) (by omega)).mono ?_
  rintro e w2 ⟨v, rfl, b, c, q, ms, rfl, x1, x7, xc, xm, hM, _, hbn, hr2, hq, hK2⟩
  have hlt := hr1.lt
  have hs2 := hK2.size
  have cR2 := (hK2.block w.heap.size (by omega) (by omega)).trans cR
  have hb2 : Below w.heap.size w w2 := hb1'.trans (hK2.below (by omega) (by omega))
  clear hb1' cR hK2
  go_wp2_with fail
  refine (l20Req_any (w.heap.size + 1) q 9 w2 hr2 (by omega) (by omega) (by omega)).mono ?_
  rintro e w3 ⟨v, rfl, r, pd, cd, pl, cl, p', rfl, hA, hl1, hl2, hr3, hp', hK, hn1, hn2⟩
  have cR3 := (hK.block w.heap.size (by omega) (by omega)).trans cR2
  have hb3 : Below w.heap.size w w3 := hb2.trans (hK.below (by omega) (by omega))
  have hM3 : RowOf w3 (some ⟨b, 0, none⟩) ms := hM.of hK.size (fun b' off e hlt' => by cases e; exact hK.block b hlt' (by omega))
  have q0 : w3.cell? ⟨w.heap.size, 0, none⟩ = some (.int .i64 0) := heap_cell cR3 0
  have g0 : w3.frozen? ⟨w.heap.size, 0, none⟩ = false := heap_free cR3 0
  have q1 : w3.cell? ⟨w.heap.size, 1, none⟩ = some (.int .i64 0) := heap_cell cR3 1
  have g1 : w3.frozen? ⟨w.heap.size, 1, none⟩ = false := heap_free cR3 1
  have q2 : w3.cell? ⟨w.heap.size, 2, none⟩ = some (.int .i64 0) := heap_cell cR3 2
  have g2 : w3.frozen? ⟨w.heap.size, 2, none⟩ = false := heap_free cR3 2
  have q3 : w3.cell? ⟨w.heap.size, 3, none⟩ = some (.int .i64 0) := heap_cell cR3 3
  have g3 : w3.frozen? ⟨w.heap.size, 3, none⟩ = false := heap_free cR3 3
  have q4 : w3.cell? ⟨w.heap.size, 4, none⟩ = some (.bool false) := heap_cell cR3 4
  have g4 : w3.frozen? ⟨w.heap.size, 4, none⟩ = false := heap_free cR3 4
  have q5 : w3.cell? ⟨w.heap.size, 5, none⟩ = some (.slice none 0 0) := heap_cell cR3 5
  have g5 : w3.frozen? ⟨w.heap.size, 5, none⟩ = false := heap_free cR3 5
  have q6 : w3.cell? ⟨w.heap.size, 6, none⟩ = some (.slice none 0 0) := heap_cell cR3 6
  have g6 : w3.frozen? ⟨w.heap.size, 6, none⟩ = false := heap_free cR3 6
  obtain ⟨hblk, r0, r1, r2, r3, r4, r5, r6⟩ := fin7 (a0 := (.int .i64 r.id)) (a1 := (.int .i64 r.kind)) (a2 := (.int .i64 r.addr)) (a3 := (.int .i64 r.many)) (a4 := (.bool r.wrap)) (a5 := (.slice pd r.data.length cd)) (a6 := (.slice pl r.lanes.length cl)) cR3
  have hA' : ReqAt (((((((w3.setCell ⟨w.heap.size, 0, none⟩ (.int .i64 r.id)).setCell ⟨w.heap.size, 1, none⟩ (.int .i64 r.kind)).setCell ⟨w.heap.size, 2, none⟩ (.int .i64 r.addr)).setCell ⟨w.heap.size, 3, none⟩ (.int .i64 r.many)).setCell ⟨w.heap.size, 4, none⟩ (.bool r.wrap)).setCell ⟨w.heap.size, 5, none⟩ (.slice pd r.data.length cd)).setCell ⟨w.heap.size, 6, none⟩ (.slice pl r.lanes.length cl)) r pd cd pl cl := ⟨hA.data.of (by simp) (fun b off e _ => hblk b (by have := hn1 b off e; omega)), hA.lanes.of (by simp) (fun b off e _ => hblk b (by have := hn2 b off e; omega)), hA.cd1, hA.cd2, hA.cl1, hA.cl2⟩
  have hM4 : RowOf (((((((w3.setCell ⟨w.heap.size, 0, none⟩ (.int .i64 r.id)).setCell ⟨w.heap.size, 1, none⟩ (.int .i64 r.kind)).setCell ⟨w.heap.size, 2, none⟩ (.int .i64 r.addr)).setCell ⟨w.heap.size, 3, none⟩ (.int .i64 r.many)).setCell ⟨w.heap.size, 4, none⟩ (.bool r.wrap)).setCell ⟨w.heap.size, 5, none⟩ (.slice pd r.data.length cd)).setCell ⟨w.heap.size, 6, none⟩ (.slice pl r.lanes.length cl)) (some ⟨b, 0, none⟩) ms := hM3.of (by simp) (fun b' off e _ => by cases e; exact hblk b (by omega))
  have HA := Hid.intro hA'
  have HM := Hid.intro hM4
  have HB := Hid.intro (below7 (a0 := (.int .i64 r.id)) (a1 := (.int .i64 r.kind)) (a2 := (.int .i64 r.addr)) (a3 := (.int .i64 r.many)) (a4 := (.bool r.wrap)) (a5 := (.slice pd r.data.length cd)) (a6 := (.slice pl r.lanes.length cl)) hb3 (Nat.le_refl _))
  clear hA hA' hb2 hb3 hK hr2 hr3 cR2 cR3 hblk hn1 hn2 hM hM3 hM4
  unfold reqV
  go_wp2
  refine bodyPost_ret (v := .tuple #[.slice (some ⟨b, 0, none⟩) ms.length c, reqV r pd cd pl cl]) (by simp [results, Try.results23, go_sem, r0, r1, r2, r3, r4, r5, r6, reqV]) rfl ⟨b, c, ms, r, pd, cd, pl, cl, rfl, HM.out, xc, xm, x1, x7, HA.out, hl1, hl2, HB.out⟩

end Go.Proofs.Ytdjmjdljgdagcaa
