/-
  Proved: at every argument InOk of the program answers as InOk of the model; it writes into no argument. No condition.
-/
import Derived.Test.YtgcpjddnnamdhaaRows
import Derived.Test.YtgcpjddnnamdhaaInM
import Derived.Test.YtgcpjddnnamdhaaOpenI
import Derived.Test.YtgcpjddnnamdhaaOpsX
import Derived.Deep.Grids
namespace Go.Proofs.Ytgcpjddnnamdhaa
open Go.ChangeShapes Go.WideShapes Go.ChangeAt Go.RowKit Go.Deep Go.Joins
set_option linter.unusedVariables false
set_option linter.unusedSimpArgs false

theorem open_boolsV {H : Type} {enc : TypeId × Value → H} {W : World} {n : Nat} {v : Value} {y : DataW H × List MemPlace}
    (h : DataW.trod enc Try.prog W 0 (fun _ => true) true n 33 [v] = some y) : ∃ (a : Option Addr) (xs : List Bool) (cap : Nat), v = .slice a xs.length cap ∧ BoolsAt W a xs ∧ xs.length ≤ cap ∧ cap ≤ 9223372036854775807 := by
  rcases open_bools Try.underlying33 Try.underlying4 (by kernel_rfl) h with ⟨hcs, _⟩ | ⟨x, l, c, B, hcs, _, hl, hm, _, hcell⟩
  · simp at hcs
    subst hcs
    exact ⟨none, [], 0, rfl, .inl rfl, by simp, by omega⟩
  · simp at hcs
    subst hcs
    refine ⟨some x, (List.range l).map B, c, by simp, ?_, by simpa using hl, by unfold maxLen at hm; omega⟩
    rcases Nat.eq_zero_or_pos l with h0 | h0
    · subst h0; exact .inl (by simp)
    · have c0 := hcell 0 (by omega)
      simp [Addr.add] at c0
      have hsp : x.spot = none := World.cell?_spot c0
      obtain ⟨b, off, sp⟩ := x
      simp at hsp
      subst hsp
      refine .inr ⟨b, off, rfl, ?_, fun i hi => ?_⟩
      · rcases Nat.lt_or_ge b W.heap.size with h' | h'
        · exact h'
        · simp [World.cell?, Array.getElem?_eq_none h'] at c0
      · have hi1 : i < l := by simpa using hi
        have ci := hcell i (by omega)
        have e : (⟨b, off, none⟩ : Addr).add i = ⟨b, off + i, none⟩ := by unfold Addr.add; split <;> simp_all
        rw [e] at ci
        rw [ci]
        simp

set_option maxRecDepth 100000 in
theorem open_in {H : Type} {enc : TypeId × Value → H} {W : World} {re : Reach} {b0 : Nat} {v : Value} {d : DataW H} {pl : List MemPlace} (hv : Value.okWide Try.prog W re b0 64 v) (h : DataW.Trod enc Try.prog W 0 (fun _ => true) true 64 v d pl) :
    ∃ (x : Inn) (p q r : Option Addr) (a b c : Nat), v = inV x p q r a b c ∧ InAt W x p q r a b c := by
  obtain ⟨v0, v1, v2, y0, y1, y2, n, rfl, _, _, t0, t1, t2⟩ := open_agg3 Try.underlying64 (by kernel_rfl) (by kernel_rfl) hv h
  obtain ⟨p, xs, a, rfl, i0, a0, b0⟩ := open_boolsV t0
  obtain ⟨q, ys, b, rfl, i1, a1, b1⟩ := open_boolsV t1
  obtain ⟨r, zs, c, rfl, i2, a2, b2⟩ := open_boolsV t2
  exact ⟨⟨xs, ys, zs⟩, p, q, r, a, b, c, rfl, i0, i1, i2, a0, b0, a1, b1, a2, b2⟩

namespace fnExactInOk

/-- a copy of its own -/
def kIn (x : Inn) : World → Value → Prop := fun w v => ∃ g h k M, v = inV x (some ⟨g, 0, none⟩) (some ⟨h, 0, none⟩) (some ⟨k, 0, none⟩) x.ready.length x.stall.length x.send.length ∧ InOwn M w x g h k
theorem stable_in {x : Inn} {w w' : World} {v : Value} (hr : Gr w w') (h : kIn x w v) : kIn x w' v := by
  obtain ⟨g, h, k, M, h1, h2⟩ := h
  exact ⟨g, h, k, M, h1, h2.below hr⟩

set_option maxRecDepth 100000 in
set_option maxHeartbeats 2000000 in
theorem walk (x : Inn) (p q r : Option Addr) (a b c : Nat) (w : World) (hx : InAt w x p q r a b c) :
    Calls Try.prog 8 #[inV x p q r a b c] w fun e w' => e = .returned (.bool true) ∧ Below w.heap.size w w' := by
  have hbl : ∀ o, Below w.heap.size w (w.alloc o) := fun o => (Below.refl _ w).alloc (Nat.le_refl _) o
  have HX := Hid.intro hx
  have d1 := hx.a1
  have d2 := hx.a2
  have d3 := hx.b1
  have d4 := hx.b2
  have d5 := hx.c1
  have d6 := hx.c2
  clear hx
  have HS := Hid.intro (fun W => szIn_any x p q r a b c 1048576 W (by omega) (by omega) (by omega) (by omega) (by omega))
  by_cases hl : (x.ready.length : Int) + x.stall.length + x.send.length ≤ 1048576
  · have hN : ¬ (1048576 - (x.ready.length : Int) - x.stall.length - x.send.length < 0) := by omega
    have HT := Hid.intro (fun W h => toIn_any x p q r a b c W h (by omega) (by omega) (by omega))
    rw [if_pos hl] at HS
    unfold inV at HS HT ⊢
    go_enter Try.func8, Try.ntmps8
    go_wp2_with fail
    refine (HS.out _).mono ?_
    rintro e w1 ⟨rfl, hb1⟩
    have hs1 := hb1.size
    simp at hs1
    have bA1 : w1.heap[w.heap.size]? = some (.cells #[.slice p x.ready.length a, .slice q x.stall.length b, .slice r x.send.length c] 64 (0, 0)) := (hb1.block w.heap.size (by simp)).trans (in_nw _ rfl)
    have c0 : w1.cell? ⟨w.heap.size, 0, none⟩ = some (.slice p x.ready.length a) := heap_cell bA1 0
    have c1 : w1.cell? ⟨w.heap.size, 1, none⟩ = some (.slice q x.stall.length b) := heap_cell bA1 1
    have c2 : w1.cell? ⟨w.heap.size, 2, none⟩ = some (.slice r x.send.length c) := heap_cell bA1 2
    have hb1' := (hbl _).trans (hb1.mono (hbl _).size)
    have hA1 : w.heap.size < w1.heap.size := by omega
    clear hb1
    go_wp2_with fail
    refine (HT.out w1 (HX.out.below hb1')).mono ?_
    rintro e w2 ⟨f1, f2, f3, rfl, hR2, hb2⟩
    have hs2 := hb2.size
    have bA2 := (hb2.block w.heap.size hA1).trans bA1
    have hb2' := hb1'.trans (hb2.mono hb1'.size)
    clear hb2 bA1 hb1' c0 c1 c2 hR2
    have HQ := Hid.intro (fun p q r a b c => spec_InOk x p q r a b c w2)
    unfold inV at HQ
    go_wp2_with fail
    refine (HQ.out _ _ _ _ _ _).mono ?_
    rintro e w3 ⟨rfl, hb3⟩
    have hs3 := hb3.size
    have bA3 := (hb3.block w.heap.size (by omega)).trans bA2
    have hb3' := hb2'.trans (hb3.mono hb2'.size)
    have hA3 : w.heap.size < w3.heap.size := by omega
    clear hb3 bA2 hb2' HQ
    have c0 : w3.cell? ⟨w.heap.size, 0, none⟩ = some (.slice p x.ready.length a) := heap_cell bA3 0
    have c1 : w3.cell? ⟨w.heap.size, 1, none⟩ = some (.slice q x.stall.length b) := heap_cell bA3 1
    have c2 : w3.cell? ⟨w.heap.size, 2, none⟩ = some (.slice r x.send.length c) := heap_cell bA3 2
    go_wp2_with fail
    refine (HT.out w3 (HX.out.below hb3')).mono ?_
    rintro e w4 ⟨g1, g2, g3, rfl, hR4, hb4⟩
    have hs4 := hb4.size
    have bA4 := (hb4.block w.heap.size hA3).trans bA3
    have hb4' := hb3'.trans (hb4.mono hb3'.size)
    have hA4 : w.heap.size < w4.heap.size := by omega
    clear hb4 bA3 hb3' c0 c1 c2
    have hbl4 : ∀ o, Below w4.heap.size w4 (w4.alloc o) := fun o => (Below.refl _ w4).alloc (Nat.le_refl _) o
    have HI := Hid.intro (fun W p q r a b c => impl_InOk x p q r a b c W)
    unfold inV at HI
    go_wp2_with fail
    refine (HI.out _ _ _ _ _ _ _).mono ?_
    rintro e w5 ⟨rfl, hb5⟩
    have hs5 := hb5.size
    simp at hs5
    have bA5 := (hb5.block w.heap.size (by simp; omega)).trans (((hbl4 _).block w.heap.size hA4).trans bA4)
    have bB5 : w5.heap[w4.heap.size]? = some (.cells #[.slice (some ⟨g1, 0, none⟩) x.ready.length x.ready.length, .slice (some ⟨g2, 0, none⟩) x.stall.length x.stall.length, .slice (some ⟨g3, 0, none⟩) x.send.length x.send.length] 35 (0, 0)) := (hb5.block w4.heap.size (by simp)).trans (in_nw _ rfl)
    have hR5 := (hR4.below (hbl4 _)).below hb5
    have hb5' := (hb4'.trans ((hbl4 _).mono hb4'.size)).trans (hb5.mono (by simp; omega))
    have hx5 := HX.out.below hb5'
    have hA5 : w.heap.size < w5.heap.size := by omega
    have hB5 : w4.heap.size < w5.heap.size := by omega
    clear hb5 hR4 hbl4 bA4 hb4' HI
    go_wp2_with fail
    refine wp_region_typed (by kernel_rfl) Gr (fun _ W => Below w5.heap.size w5 W)
      (tab [(22, kIs (.agg #[.slice (some ⟨g1, 0, none⟩) x.ready.length x.ready.length, .slice (some ⟨g2, 0, none⟩) x.stall.length x.stall.length, .slice (some ⟨g3, 0, none⟩) x.send.length x.send.length])), (23, kIs (.agg #[.slice p x.ready.length a, .slice q x.stall.length b, .slice r x.send.length c])), (24, kIn x), (25, kIs (.bool true)), (26, kIs (.bool false))])
      [22, 23, 24, 25, 26] (by kernel_rfl) (by kernel_rfl) ?_ ?_ ?_ ?_
    · refine tabR_stable ?_
      intro x hx
      simp at hx
      rcases hx with rfl | rfl | rfl | rfl | rfl
      all_goals intro w w' v hr hv
      all_goals first | exact hv | exact stable_in hr hv
    · exact (Below.refl _ _).drew
    · refine ops_cons (gd rfl <| tx_pure rfl rfl (fun _ _ h => h) Gr.refl (fun i ρ W hat hW => ?_)) ?_
      · have bW := (hW.block w4.heap.size hB5).trans bB5
        have c0 : W.cell? ⟨w4.heap.size, 0, none⟩ = some (.slice (some ⟨g1, 0, none⟩) x.ready.length x.ready.length) := heap_cell bW 0
        have c1 : W.cell? ⟨w4.heap.size, 1, none⟩ = some (.slice (some ⟨g2, 0, none⟩) x.stall.length x.stall.length) := heap_cell bW 1
        have c2 : W.cell? ⟨w4.heap.size, 2, none⟩ = some (.slice (some ⟨g3, 0, none⟩) x.send.length x.send.length) := heap_cell bW 2
        have e2 := hat.out 5 (by kernel_rfl)
        simp [Act.eval] at e2
        clear bW
        simp only [execOp, e2]; go_simp
      refine ops_cons (gd rfl <| tx_pure rfl rfl (fun _ _ h => h) Gr.refl (fun i ρ W hat hW => ?_)) ?_
      · have bW := (hW.block w.heap.size hA5).trans bA5
        have c0 : W.cell? ⟨w.heap.size, 0, none⟩ = some (.slice p x.ready.length a) := heap_cell bW 0
        have c1 : W.cell? ⟨w.heap.size, 1, none⟩ = some (.slice q x.stall.length b) := heap_cell bW 1
        have c2 : W.cell? ⟨w.heap.size, 2, none⟩ = some (.slice r x.send.length c) := heap_cell bW 2
        have e2 := hat.out 1 (by kernel_rfl)
        simp [Act.eval] at e2
        clear bW
        simp only [execOp, e2]; go_simp
      refine ops_cons (gd rfl <| tx_call rfl (fun i ρ W _ hat hW => ?_)) ?_
      · have e1 : ρ (.tmp 23) = _ := hat.dep 23 (by kernel_rfl)
        have hf := hat.fn
        refine ⟨31, #[.agg #[.slice p x.ready.length a, .slice q x.stall.length b, .slice r x.send.length c]], by simp only [execOp]; go_simp, ?_⟩
        refine (HT.out W (hx5.below hW)).mono ?_
        rintro e W' ⟨k1, k2, k3, rfl, hR, hb⟩
        exact ⟨_, rfl, hW.trans (hb.mono hW.size), hb, k1, k2, k3, _, rfl, hR⟩
      refine ops_cons (gd rfl <| tx_call rfl (fun i ρ W _ hat hW => ?_)) ?_
      · have e1 : ρ (.tmp 22) = _ := hat.dep 22 (by kernel_rfl)
        obtain ⟨k1, k2, k3, M, e2, hR⟩ : kIn x W (ρ (.tmp 24)) := hat.dep 24 (by kernel_rfl)
        have hf := hat.fn
        refine ⟨32, #[.agg #[.slice (some ⟨g1, 0, none⟩) x.ready.length x.ready.length, .slice (some ⟨g2, 0, none⟩) x.stall.length x.stall.length, .slice (some ⟨g3, 0, none⟩) x.send.length x.send.length], inV x (some ⟨k1, 0, none⟩) (some ⟨k2, 0, none⟩) (some ⟨k3, 0, none⟩) x.ready.length x.stall.length x.send.length], by simp only [execOp]; go_simp, ?_⟩
        refine (eqIn_same x _ _ _ _ _ _ _ _ _ _ _ _ W ((hR5.below hW).at (by omega) (by omega) (by omega)) (hR.at (by omega) (by omega) (by omega))).mono ?_
        rintro e W' ⟨rfl, hb⟩
        exact ⟨_, rfl, hW.trans (hb.mono hW.size), hb, rfl⟩
      refine ops_cons (gd rfl <| tx_pure rfl rfl (fun _ _ h => h) Gr.refl (fun i ρ W hat hW => ?_)) ?_
      · have e1 : ρ (.tmp 25) = _ := hat.dep 25 (by kernel_rfl)
        simp only [execOp, e1]; go_simp
      exact ops_nil
    · intro f W hW hf
      have e26 : f 26 = .bool false := hf 26 (by simp)
      clear hf
      have hbW := hb5'.trans (hW.mono hb5'.size)
      simp only [fill, e26]
      go_simp
      go_wp2
      go_ret
      exact ⟨rfl, hbW⟩
  · rw [if_neg hl] at HS
    unfold inV at HS ⊢
    go_enter Try.func8, Try.ntmps8
    go_wp2_with fail
    refine (HS.out _).mono ?_
    rintro e w1 ⟨rfl, hb1⟩
    have hb1' := (hbl _).trans (hb1.mono (hbl _).size)
    go_wp2
    go_ret
    exact ⟨rfl, hb1'⟩

set_option maxRecDepth 100000 in
theorem lifted (os : Os) (started : os.Started) (H : Type) (enc : TypeId × Value → H) :
    ReturnsInHanded {} Try.checked os 8 .any (Rows.fnExactInOkSpec.pre6 enc Try.prog Try.f8 Rows.fnExactInOkRow.domain false) (Rows.fnExactInOkSpec.post enc Try.prog Try.f8 false true false false) := by
  refine returnsInHanded_of_change (C := Try.checked) ownI started (by kernel_rfl) Try.func8
    (ChangeSpec.witness6 (enc := enc) (C := Try.checked) false ⟨#[], #[.agg #[.slice none 0 0, .slice none 0 0, .slice none 0 0]], []⟩ 8 (by kernel_rfl) (by kernel_rfl) (by kernel_rfl) (by kernel_rfl)) ?_
  intro W base args ds gs before hval0 hW hcnd _
  have hval : ∀ (j : Nat) t v, Try.f8.params[j]? = some t → args[j]? = some v → Value.okWide Try.prog W .any base t v := hval0
  have hW' := hW
  obtain ⟨p, q, hA0, hV, rfl, hfz, hnd⟩ := hW
  have hA : DataW.TrodAll enc Try.prog W 0 (fun _ => true) true Try.f8.params.toList args.toList ds p := hA0
  rw [Try.params8] at hA hval
  obtain ⟨v0, vs0, d0, ds0, p0, q0, hargs, rfl, rfl, h0, r0⟩ := trodAll_cons hA
  obtain ⟨rfl, rfl, rfl⟩ := trodAll_nil r0
  obtain rfl : args = #[v0] := by cases args; simp_all
  obtain ⟨rfl, rfl⟩ := trodVars_none hV
  have k0 := h0
  have lt0 : ∀ x ∈ p0, x.block < W.heap.size := by obtain ⟨m, hm⟩ := k0; exact DataW.trod_lt m _ _ _ hm
  obtain ⟨x, p, q, r, a, b, c, rfl, hx⟩ := open_in (hval 0 64 v0 rfl rfl) h0
  clear hA0 hval0
  refine (walk x p q r a b c W hx).mono fun e W' ⟨he, bel⟩ => ?_
  subst he
  exact ⟨_, rfl, _, _, _, [], _, [], hW', trodAll_mk1 (shut_bool Try.underlying4 _), (trodAll_cons_mk (Below.trod laidOutI (by kernel_rfl) (of_decide_eq_true (by kernel_rfl)) k0 bel lt0) trodAll_mk0), rfl, bel.frame _, fun h => by cases h⟩

theorem over : Rows.fnExactInOkRow.holds Try.pinned (OpenSpec.ofChange Rows.fnExactInOkSpec) :=
  OpenClaim.holds_of_wide 8 Try.f8 rfl rfl rfl rfl rfl rfl rfl ⟨rfl, rfl, rfl, rfl, rfl⟩ rfl rfl rfl rfl rfl (by kernel_rfl) Try.func8 (by kernel_rfl)
    (of_decide_eq_true (by kernel_rfl)) (by unfold Func.isWrapper; first | (rw [if_pos (by decide +kernel)]; kernel_rfl) | (rw [if_neg (by decide +kernel)]; exact ⟨rfl, rfl⟩))
    (fun os started H enc _ => lifted os started H enc)

theorem proved : Rows.FnExactInOkSaid := over
end fnExactInOk

end Go.Proofs.Ytgcpjddnnamdhaa
