/-
  spec's DrawInOk: whatever the code, what comes from outside in a cycle, some with a word less or more.
-/
import Derived.Test.YtgcpjddnnamdhaaDrawIn
import Derived.Deep.AppendLies
namespace Go.Proofs.Ytgcpjddnnamdhaa
open Go.RowKit
set_option linter.unusedSimpArgs false
set_option linter.unusedVariables false

theorem BoolsAt.drop1 {w : World} {b off : Nat} {xs : List Bool} (h : BoolsAt w (some ⟨b, off, none⟩) xs) : BoolsAt w (some ⟨b, off + 1, none⟩) (xs.drop 1) := by
  rcases h with h | ⟨b', off', e, h2, h3⟩
  · left; simp [h]
  · cases e
    refine .inr ⟨b, off + 1, rfl, h2, fun i hi => ?_⟩
    have hi' : i + 1 < xs.length := by simp at hi; omega
    have := h3 (i + 1) hi'
    rw [show off + 1 + i = off + (i + 1) by omega, this]
    simp
theorem bytes_al {w : World} {a : Option Addr} {len : Nat} (h : Bytes w w.heap.size a len) (o : Obj) : Bytes (w.alloc o) (w.alloc o).heap.size a len := by
  rcases h with h | ⟨b, off, h1, h2, h3⟩
  · exact .inl h
  · exact .inr ⟨b, off, h1, by simp; omega, fun i hi => by
      obtain ⟨n, g1, g2, g3⟩ := h3 i hi
      exact ⟨n, g1, g2, (World.cell?_alloc_past _ _ _ (by simpa using h2)).trans g3⟩⟩
theorem ORow.ownsB {w : World} {base g cap n : Nat} {cs : List Value} (h : ORow 4 1 w g cap n cs) (hb : base ≤ g) (hc : cap ≤ maxLen) : w.ownsRow base 4 1 (.slice (some ⟨g, 0, none⟩) n cap) n cs := by
  obtain ⟨cur, h1, h2, h3, h4, h5⟩ := h
  exact ⟨h4, .inr ⟨g, cap, cur, rfl, hb, h1, h3, hc, h2, h5⟩⟩

set_option maxRecDepth 100000 in
set_option maxHeartbeats 4000000 in
theorem drawInOk_any (a : Option Addr) (len cap : Nat) (w : World) (hc : len ≤ cap) (hm : cap ≤ 9223372036854775807) (hb : Bytes w w.heap.size a len) :
    Calls Try.prog 13 #[.slice a len cap] w fun e w' => ∃ (x : Inn) (p q r : Nat) (i j k : Nat) (a b c : Nat), e = .returned (inV x (some ⟨p, i, none⟩) (some ⟨q, j, none⟩) (some ⟨r, k, none⟩) a b c) ∧ InAt w' x (some ⟨p, i, none⟩) (some ⟨q, j, none⟩) (some ⟨r, k, none⟩) a b c ∧ Below w.heap.size w w' := by
  go_enter Try.func13, Try.ntmps13
  go_wp2_with fail
  refine (open_any a len cap _ hc hm (bytes_al hb _)).mono ?_
  rintro e W0 ⟨rfl, hr0, hb0⟩
  have hs0 := hb0.size
  simp at hs0 hr0
  have bR : W0.heap[w.heap.size]? = some (.cells #[.slice none 0 0, .slice none 0 0, .slice none 0 0] 35 (0, 0)) := (hb0.block _ (by simp)).trans (in_nw _ rfl)
  have hw0 : Below w.heap.size w W0 := ((Below.refl _ w).alloc (Nat.le_refl _) _).trans (hb0.mono (by simp))
  have hl0 := hr0.lt
  clear hb0
  simp only [World.size_alloc]
  obtain ⟨B, eB⟩ : ∃ B, B = w.heap.size + 1 := ⟨_, rfl⟩
  obtain ⟨R, eR⟩ : ∃ R, R = w.heap.size := ⟨_, rfl⟩
  rw [← eB] at hr0 hl0 ⊢
  rw [← eR] at bR ⊢
  have hRB : R < B := by omega
  have hRw : w.heap.size ≤ R := by omega
  have hRe : R = w.heap.size := eR
  have HRe := Hid.intro hRe
  clear eB eR hRe
  go_wp2_with fail
  refine (l20In_any B 0 3 W0 hr0 (by omega) (by omega) (by omega)).mono ?_
  rintro e w1 ⟨v, rfl, x, g, h, k, p', rfl, l1, l2, l3, hO, hr1, hp1, hK1⟩
  have hs1 := hK1.size
  have lo := hO.lo
  have gh := hO.gh
  have hk := hO.hk
  have gk := hO.gk
  have t1 := hO.ready.lt
  have t2 := hO.stall.lt
  have t3 := hO.send.lt
  have bR1 := (hK1.block R (heap_lt bR) (by omega)).trans bR
  have hRl := heap_lt bR1
  have HO := Hid.intro hO
  have Hr := Hid.intro hr1
  have HK := Hid.intro hK1
  clear hO hr1 hK1 bR hr0
  unfold inV
  simp only [l1, l2, l3]
  go_wp2_with fail
  refine (pick_at (p := p') ((Hr.out).alloc _) (by omega) 5 (by omega) (by omega)).mono ?_
  rintro e w2 ⟨m, a1, a2, rfl, hr2, hK2⟩
  have hs2 := hK2.size
  simp at hs2
  have hx : Below w1.heap.size w1 (w1.alloc (.cells #[.slice (some ⟨g, 0, none⟩) 3 3, .slice (some ⟨h, 0, none⟩) 4 4, .slice (some ⟨k, 0, none⟩) 3 3] 35)) := (Below.refl _ _).alloc (Nat.le_refl _) _
  have hblk : ∀ z, z < w1.heap.size → z ≠ B → w2.heap[z]? = w1.heap[z]? := fun z h1 h2 => (hK2.block z (by simp; omega) h2).trans (hx.block z h1)
  have bM : w2.heap[w1.heap.size]? = some (.cells #[.slice (some ⟨g, 0, none⟩) 3 3, .slice (some ⟨h, 0, none⟩) 4 4, .slice (some ⟨k, 0, none⟩) 3 3] 35 (0, 0)) := (hK2.block _ (by simp) (by omega)).trans (in_nw _ rfl)
  have bR2 := (hblk R hRl (by omega)).trans bR1
  have o1 := HO.out.ready.of (hblk g t1 (by omega))
  have o2 := HO.out.stall.of (hblk h t2 (by omega))
  have o3 := HO.out.send.of (hblk k t3 (by omega))
  have hB2 : Below w.heap.size w w2 := (hw0.trans ((HK.out.below (n := w.heap.size) (by omega) (by omega)))).trans ⟨hK2.os, hK2.tape, hK2.output, by omega, fun z hz => hblk z (by omega) (by omega)⟩
  obtain ⟨M, eM⟩ : ∃ M, M = w1.heap.size := ⟨_, rfl⟩
  rw [← eM] at bM ⊢
  have nMR : M ≠ R := by omega
  have b1 := ORow.bools (l := x.ready) (by rw [l1]; rw [l1] at o1; exact o1)
  have b2 := ORow.bools (l := x.stall) (by rw [l2]; rw [l2] at o2; exact o2)
  have b3 := ORow.bools (l := x.send) (by rw [l3]; rw [l3] at o3; exact o3)
  have hMl := heap_lt bM
  have hRl2 := heap_lt bR2
  have nMg : M ≠ g ∧ M ≠ h ∧ M ≠ k ∧ R ≠ g ∧ R ≠ h ∧ R ≠ k := by omega
  have HB1 := Hid.intro b1
  have HB2 := Hid.intro b2
  have HB3 := Hid.intro b3
  have HO3 := Hid.intro o3
  have HL := Hid.intro hB2
  have hMw : w.heap.size ≤ M := by omega
  have hkw : w.heap.size ≤ k := by omega
  have ngk : g ≠ k ∧ h ≠ k := ⟨gk, hk⟩
  have hsw : w.heap.size ≤ w2.heap.size := by omega
  clear Hr HK HO hr2 hK2 hx hblk bR1 o1 o2 o3 b1 b2 b3 hB2 hw0 eM hl0 hRl hs0 hs1 hs2 lo t1 t2 gh hk gk hp1
  have m0 : w2.cell? ⟨M, 0, none⟩ = some (.slice (some ⟨g, 0, none⟩) 3 3) := heap_cell bM 0
  have m1 : w2.cell? ⟨M, 1, none⟩ = some (.slice (some ⟨h, 0, none⟩) 4 4) := heap_cell bM 1
  have m2 : w2.cell? ⟨M, 2, none⟩ = some (.slice (some ⟨k, 0, none⟩) 3 3) := heap_cell bM 2
  have f0 := heap_free bM 0
  have f1 := heap_free bM 1
  have f2 := heap_free bM 2
  have u0 : w2.cell? ⟨R, 0, none⟩ = some (.slice none 0 0) := heap_cell bR2 0
  have u1 : w2.cell? ⟨R, 1, none⟩ = some (.slice none 0 0) := heap_cell bR2 1
  have u2 : w2.cell? ⟨R, 2, none⟩ = some (.slice none 0 0) := heap_cell bR2 2
  have v0 := heap_free bR2 0
  have v1 := heap_free bR2 1
  have v2 := heap_free bR2 2
  have hm : m = 0 ∨ m = 1 ∨ m = 2 ∨ (m ≠ 0 ∧ m ≠ 1 ∧ m ≠ 2) := by omega
  rcases hm with rfl | rfl | rfl | ⟨q0, q1, q2⟩
  · have bRb := (heap_set_ne (w := w2) (b := M) (k := R) (i := 0) (v := (.slice (some ⟨g, 1, none⟩) 2 2)) (fun e => nMR e.symm)).trans bR2
    have hf := heap_set (heap_set (heap_set bRb 0 (.slice (some ⟨g, 1, none⟩) 2 2)) 1 (.slice (some ⟨h, 0, none⟩) 4 4)) 2 (.slice (some ⟨k, 0, none⟩) 3 3)
    have r0 := heap_cell hf 0
    have r1 := heap_cell hf 1
    have r2 := heap_cell hf 2
    simp at r0 r1 r2
    have hne : ∀ z, z ≠ R → ((((w2.setCell ⟨M, 0, none⟩ (.slice (some ⟨g, 1, none⟩) 2 2)).setCell ⟨R, 0, none⟩ (.slice (some ⟨g, 1, none⟩) 2 2)).setCell ⟨R, 1, none⟩ (.slice (some ⟨h, 0, none⟩) 4 4)).setCell ⟨R, 2, none⟩ (.slice (some ⟨k, 0, none⟩) 3 3)).heap[z]? = (w2.setCell ⟨M, 0, none⟩ (.slice (some ⟨g, 1, none⟩) 2 2)).heap[z]? := fun z h1 => (heap_set_ne h1).trans ((heap_set_ne h1).trans (heap_set_ne h1))
    have HP : Hid (InAt ((((w2.setCell ⟨M, 0, none⟩ (.slice (some ⟨g, 1, none⟩) 2 2)).setCell ⟨R, 0, none⟩ (.slice (some ⟨g, 1, none⟩) 2 2)).setCell ⟨R, 1, none⟩ (.slice (some ⟨h, 0, none⟩) 4 4)).setCell ⟨R, 2, none⟩ (.slice (some ⟨k, 0, none⟩) 3 3)) ⟨x.ready.drop 1, x.stall, x.send⟩ (some ⟨g, (0 + 1), none⟩) (some ⟨h, 0, none⟩) (some ⟨k, 0, none⟩) 2 4 3) := ⟨(HB1.out.drop1).of (by simp) (fun z off e hz => by cases e; exact (hne _ (by omega)).trans (heap_set_ne (by omega))), (HB2.out).of (by simp) (fun z off e hz => by cases e; exact (hne _ (by omega)).trans (heap_set_ne (by omega))), (HB3.out).of (by simp) (fun z off e hz => by cases e; exact (hne _ (by omega)).trans (heap_set_ne (by omega))), by simp [l1, l2, l3], by omega, by simp [l1, l2, l3], by omega, by simp [l1, l2, l3] <;> omega, by omega⟩
    have HW : Hid (Below w.heap.size w ((((w2.setCell ⟨M, 0, none⟩ (.slice (some ⟨g, 1, none⟩) 2 2)).setCell ⟨R, 0, none⟩ (.slice (some ⟨g, 1, none⟩) 2 2)).setCell ⟨R, 1, none⟩ (.slice (some ⟨h, 0, none⟩) 4 4)).setCell ⟨R, 2, none⟩ (.slice (some ⟨k, 0, none⟩) 3 3))) := (((HL.out.setCell (p := ⟨M, 0, none⟩) hMw _).setCell (p := ⟨R, 0, none⟩) hRw _).setCell (p := ⟨R, 1, none⟩) hRw _).setCell (p := ⟨R, 2, none⟩) hRw _
    clear hf hne
    clear bM bR2 bRb HB1 HB2 HB3 HO3 HL
    go_wp2
    refine bodyPost_ret (v := .agg #[.slice (some ⟨g, 1, none⟩) 2 2, .slice (some ⟨h, 0, none⟩) 4 4, .slice (some ⟨k, 0, none⟩) 3 3]) (by simp [results, Try.results13, go_sem, r0, r1, r2]) rfl ⟨⟨x.ready.drop 1, x.stall, x.send⟩, g, h, k, 0 + 1, 0, 0, 2, 4, 3, by simp [inV, l1, l2, l3], HP.out, HW.out⟩
  · have bRb := (heap_set_ne (w := w2) (b := M) (k := R) (i := 1) (v := (.slice (some ⟨h, 1, none⟩) 3 3)) (fun e => nMR e.symm)).trans bR2
    have hf := heap_set (heap_set (heap_set bRb 0 (.slice (some ⟨g, 0, none⟩) 3 3)) 1 (.slice (some ⟨h, 1, none⟩) 3 3)) 2 (.slice (some ⟨k, 0, none⟩) 3 3)
    have r0 := heap_cell hf 0
    have r1 := heap_cell hf 1
    have r2 := heap_cell hf 2
    simp at r0 r1 r2
    have hne : ∀ z, z ≠ R → ((((w2.setCell ⟨M, 1, none⟩ (.slice (some ⟨h, 1, none⟩) 3 3)).setCell ⟨R, 0, none⟩ (.slice (some ⟨g, 0, none⟩) 3 3)).setCell ⟨R, 1, none⟩ (.slice (some ⟨h, 1, none⟩) 3 3)).setCell ⟨R, 2, none⟩ (.slice (some ⟨k, 0, none⟩) 3 3)).heap[z]? = (w2.setCell ⟨M, 1, none⟩ (.slice (some ⟨h, 1, none⟩) 3 3)).heap[z]? := fun z h1 => (heap_set_ne h1).trans ((heap_set_ne h1).trans (heap_set_ne h1))
    have HP : Hid (InAt ((((w2.setCell ⟨M, 1, none⟩ (.slice (some ⟨h, 1, none⟩) 3 3)).setCell ⟨R, 0, none⟩ (.slice (some ⟨g, 0, none⟩) 3 3)).setCell ⟨R, 1, none⟩ (.slice (some ⟨h, 1, none⟩) 3 3)).setCell ⟨R, 2, none⟩ (.slice (some ⟨k, 0, none⟩) 3 3)) ⟨x.ready, x.stall.drop 1, x.send⟩ (some ⟨g, 0, none⟩) (some ⟨h, (0 + 1), none⟩) (some ⟨k, 0, none⟩) 3 3 3) := ⟨(HB1.out).of (by simp) (fun z off e hz => by cases e; exact (hne _ (by omega)).trans (heap_set_ne (by omega))), (HB2.out.drop1).of (by simp) (fun z off e hz => by cases e; exact (hne _ (by omega)).trans (heap_set_ne (by omega))), (HB3.out).of (by simp) (fun z off e hz => by cases e; exact (hne _ (by omega)).trans (heap_set_ne (by omega))), by simp [l1, l2, l3], by omega, by simp [l1, l2, l3], by omega, by simp [l1, l2, l3] <;> omega, by omega⟩
    have HW : Hid (Below w.heap.size w ((((w2.setCell ⟨M, 1, none⟩ (.slice (some ⟨h, 1, none⟩) 3 3)).setCell ⟨R, 0, none⟩ (.slice (some ⟨g, 0, none⟩) 3 3)).setCell ⟨R, 1, none⟩ (.slice (some ⟨h, 1, none⟩) 3 3)).setCell ⟨R, 2, none⟩ (.slice (some ⟨k, 0, none⟩) 3 3))) := (((HL.out.setCell (p := ⟨M, 1, none⟩) hMw _).setCell (p := ⟨R, 0, none⟩) hRw _).setCell (p := ⟨R, 1, none⟩) hRw _).setCell (p := ⟨R, 2, none⟩) hRw _
    clear hf hne
    clear bM bR2 bRb HB1 HB2 HB3 HO3 HL
    go_wp2
    refine bodyPost_ret (v := .agg #[.slice (some ⟨g, 0, none⟩) 3 3, .slice (some ⟨h, 1, none⟩) 3 3, .slice (some ⟨k, 0, none⟩) 3 3]) (by simp [results, Try.results13, go_sem, r0, r1, r2]) rfl ⟨⟨x.ready, x.stall.drop 1, x.send⟩, g, h, k, 0, 0 + 1, 0, 3, 3, 3, by simp [inV, l1, l2, l3], HP.out, HW.out⟩
  · obtain ⟨i0, hi, hz0, hz1, hz2⟩ := info_parts Try.infoBool
    have hown := ORow.ownsB (base := k) HO3.out (Nat.le_refl _) (by unfold maxLen; rw [l3]; omega)
    have hkl := HO3.out.lt
    rw [l3] at hown
    go_wp2_with (at_builtin; refine wpList_append_lies _ rfl _ _ _ rfl k 4 i0 _ 1 1 Try.underlying33 hi hz0 hz1 hz2 rfl (by omega) (.slice (some ⟨k, 0, none⟩) 3 3) 3 _ rfl (hown.alloc _) ⟨w2.heap.size, 0, none⟩ 1 1 [.bool true] rfl rfl (cell_one_new _ _ _) (by simp [Value.oneCell']) (by omega) (by unfold maxLen; omega) (by omega) (by simp; omega) (w2.heap.size + 1) (by simp) ?_; intro g' cap' w3 hown2 hgrow2 hat2 hlt2; have hblk : ∀ z, z < w2.heap.size → z ≠ k → w3.heap[z]? = w2.heap[z]? := (fun z hz hzk => (hgrow2.block z (by simp; omega) (fun e => by simp [Value.ownBlock] at e; omega)).trans (Below.heap_alloc _ _ _ (by omega))); have bM3 := (hblk M hMl (by omega)).trans bM; have bR3 := (hblk R hRl2 (by omega)).trans bR2; have m0 : w3.cell? ⟨M, 0, none⟩ = some (.slice (some ⟨g, 0, none⟩) 3 3) := heap_cell bM3 0; have m1 : w3.cell? ⟨M, 1, none⟩ = some (.slice (some ⟨h, 0, none⟩) 4 4) := heap_cell bM3 1; have m2 : w3.cell? ⟨M, 2, none⟩ = some (.slice (some ⟨k, 0, none⟩) 3 3) := heap_cell bM3 2; have f2 := heap_free bM3 2; have u0 : w3.cell? ⟨R, 0, none⟩ = some (.slice none 0 0) := heap_cell bR3 0; have u1 : w3.cell? ⟨R, 1, none⟩ = some (.slice none 0 0) := heap_cell bR3 1; have u2 : w3.cell? ⟨R, 2, none⟩ = some (.slice none 0 0) := heap_cell bR3 2; have v0 := heap_free bR3 0; have v1 := heap_free bR3 1; have v2 := heap_free bR3 2)
    have hs3 := hgrow2.size
    simp only [World.size_alloc] at hs3
    have hgn : g' ≠ M ∧ g' ≠ R := by
      rcases hat2 with e | e
      · simp [Value.ownBlock] at e; omega
      · omega
    have hrow : ORow 4 1 w3 g' cap' (x.send ++ [true]).length ((x.send ++ [true]).map Value.bool) := by
      obtain ⟨hl, e | ⟨g3, cap3, cur, hv, h1, h2, h3, h4, h5, h6⟩⟩ := hown2
      · simp at e
      · simp at hv
        obtain ⟨rfl, rfl⟩ := hv
        refine ⟨cur, h2, h5, ?_, ?_, ?_⟩
        · simp [l3]; omega
        · simp
        · simpa [l3] using h6
    have hcap : 4 ≤ cap' ∧ cap' ≤ 9223372036854775807 := by
      obtain ⟨hl, e | ⟨g3, cap3, cur, hv, h1, h2, h3, h4, h5, h6⟩⟩ := hown2
      · simp at e
      · simp at hv
        obtain ⟨rfl, rfl⟩ := hv
        unfold maxLen at h4
        omega
    have bRb := (heap_set_ne (w := w3) (b := M) (k := R) (i := 2) (v := (.slice (some ⟨g', 0, none⟩) 4 cap')) (fun e => nMR e.symm)).trans bR3
    have hf := heap_set (heap_set (heap_set bRb 0 (.slice (some ⟨g, 0, none⟩) 3 3)) 1 (.slice (some ⟨h, 0, none⟩) 4 4)) 2 (.slice (some ⟨g', 0, none⟩) 4 cap')
    have r0 := heap_cell hf 0
    have r1 := heap_cell hf 1
    have r2 := heap_cell hf 2
    simp at r0 r1 r2
    have hne : ∀ z, z ≠ R → z ≠ M → ((((w3.setCell ⟨M, 2, none⟩ (.slice (some ⟨g', 0, none⟩) 4 cap')).setCell ⟨R, 0, none⟩ (.slice (some ⟨g, 0, none⟩) 3 3)).setCell ⟨R, 1, none⟩ (.slice (some ⟨h, 0, none⟩) 4 4)).setCell ⟨R, 2, none⟩ (.slice (some ⟨g', 0, none⟩) 4 cap')).heap[z]? = w3.heap[z]? := fun z h1 h2 => ((heap_set_ne h1).trans ((heap_set_ne h1).trans (heap_set_ne h1))).trans (heap_set_ne h2)
    have hb3 := ORow.bools hrow
    have HP : Hid (InAt ((((w3.setCell ⟨M, 2, none⟩ (.slice (some ⟨g', 0, none⟩) 4 cap')).setCell ⟨R, 0, none⟩ (.slice (some ⟨g, 0, none⟩) 3 3)).setCell ⟨R, 1, none⟩ (.slice (some ⟨h, 0, none⟩) 4 4)).setCell ⟨R, 2, none⟩ (.slice (some ⟨g', 0, none⟩) 4 cap')) ⟨x.ready, x.stall, x.send ++ [true]⟩ (some ⟨g, 0, none⟩) (some ⟨h, 0, none⟩) (some ⟨g', 0, none⟩) 3 4 cap') := ⟨HB1.out.of (by simp; omega) (fun z off e hz => by cases e; exact (hne _ (by omega) (by omega)).trans (hblk _ hz (by omega))), HB2.out.of (by simp; omega) (fun z off e hz => by cases e; exact (hne _ (by omega) (by omega)).trans (hblk _ hz (by omega))), hb3.of (by simp) (fun z off e hz => by cases e; exact hne _ (by omega) (by omega)), by simp [l1], by omega, by simp [l2], by omega, by simp [l3]; omega, by omega⟩
    have hw3 : Below w.heap.size w w3 := HL.out.trans ⟨hgrow2.os, hgrow2.tape, hgrow2.output, by omega, fun z hz => hblk z (by omega) (by omega)⟩
    have HW : Hid (Below w.heap.size w ((((w3.setCell ⟨M, 2, none⟩ (.slice (some ⟨g', 0, none⟩) 4 cap')).setCell ⟨R, 0, none⟩ (.slice (some ⟨g, 0, none⟩) 3 3)).setCell ⟨R, 1, none⟩ (.slice (some ⟨h, 0, none⟩) 4 4)).setCell ⟨R, 2, none⟩ (.slice (some ⟨g', 0, none⟩) 4 cap'))) := (((hw3.setCell (p := ⟨M, 2, none⟩) hMw _).setCell (p := ⟨R, 0, none⟩) hRw _).setCell (p := ⟨R, 1, none⟩) hRw _).setCell (p := ⟨R, 2, none⟩) hRw _
    refine bodyPost_ret (v := .agg #[.slice (some ⟨g, 0, none⟩) 3 3, .slice (some ⟨h, 0, none⟩) 4 4, .slice (some ⟨g', 0, none⟩) 4 cap']) (by simp [results, Try.results13, go_sem, r0, r1, r2]) rfl ⟨⟨x.ready, x.stall, x.send ++ [true]⟩, g, h, g', 0, 0, 0, 3, 4, cap', by simp [inV, l1, l2, l3], HP.out, HW.out⟩
  · have d0 : (m == 0) = false := by simpa using q0
    have d1 : (m == 1) = false := by simpa using q1
    have d2 : (m == 2) = false := by simpa using q2
    have hf := heap_set (heap_set (heap_set bR2 0 (.slice (some ⟨g, 0, none⟩) 3 3)) 1 (.slice (some ⟨h, 0, none⟩) 4 4)) 2 (.slice (some ⟨k, 0, none⟩) 3 3)
    have r0 := heap_cell hf 0
    have r1 := heap_cell hf 1
    have r2 := heap_cell hf 2
    simp at r0 r1 r2
    have hne : ∀ z, z ≠ R → (((w2.setCell ⟨R, 0, none⟩ (.slice (some ⟨g, 0, none⟩) 3 3)).setCell ⟨R, 1, none⟩ (.slice (some ⟨h, 0, none⟩) 4 4)).setCell ⟨R, 2, none⟩ (.slice (some ⟨k, 0, none⟩) 3 3)).heap[z]? = w2.heap[z]? := fun z h1 => (heap_set_ne h1).trans ((heap_set_ne h1).trans (heap_set_ne h1))
    have HP : Hid (InAt (((w2.setCell ⟨R, 0, none⟩ (.slice (some ⟨g, 0, none⟩) 3 3)).setCell ⟨R, 1, none⟩ (.slice (some ⟨h, 0, none⟩) 4 4)).setCell ⟨R, 2, none⟩ (.slice (some ⟨k, 0, none⟩) 3 3)) x (some ⟨g, 0, none⟩) (some ⟨h, 0, none⟩) (some ⟨k, 0, none⟩) 3 4 3) := ⟨(HB1.out).of (by simp) (fun z off e hz => by cases e; exact hne _ (by omega)), (HB2.out).of (by simp) (fun z off e hz => by cases e; exact hne _ (by omega)), (HB3.out).of (by simp) (fun z off e hz => by cases e; exact hne _ (by omega)), by simp [l1, l2, l3], by omega, by simp [l1, l2, l3], by omega, by simp [l1, l2, l3] <;> omega, by omega⟩
    have HW : Hid (Below w.heap.size w (((w2.setCell ⟨R, 0, none⟩ (.slice (some ⟨g, 0, none⟩) 3 3)).setCell ⟨R, 1, none⟩ (.slice (some ⟨h, 0, none⟩) 4 4)).setCell ⟨R, 2, none⟩ (.slice (some ⟨k, 0, none⟩) 3 3))) := ((HL.out.setCell (p := ⟨R, 0, none⟩) hRw _).setCell (p := ⟨R, 1, none⟩) hRw _).setCell (p := ⟨R, 2, none⟩) hRw _
    clear hf hne
    clear bM bR2 HB1 HB2 HB3 HO3 HL
    go_wp2
    refine bodyPost_ret (v := .agg #[.slice (some ⟨g, 0, none⟩) 3 3, .slice (some ⟨h, 0, none⟩) 4 4, .slice (some ⟨k, 0, none⟩) 3 3]) (by simp [results, Try.results13, go_sem, r0, r1, r2]) rfl ⟨x, g, h, k, 0, 0, 0, 3, 4, 3, by simp [inV, l1, l2, l3], HP.out, HW.out⟩

end Go.Proofs.Ytgcpjddnnamdhaa
