/-
  l2Get of the model: the words of addresses.
-/
import Derived.Test.YtlifkfemdknndaaSpcB
namespace Go.Proofs.Ytlifkfemdknndaa
open Go.RowKit
set_option linter.unusedSimpArgs false
set_option linter.unusedVariables false

def k10_l2Get (M B bp op bq oq k g cw cap lq cq a y : Nat) (lw : Nat) (x : Int) (ys : List Int) : World → Value → Prop := fun w v => ∃ g' c', v = .slice (some ⟨g', 0, none⟩) (ys ++ [x]).length c' ∧ ORow 3 1 w g' c' (ys ++ [x]).length ((ys ++ [x]).map (Value.int .i64)) ∧ c' ≤ 9223372036854775807 ∧ M ≤ g'
def k11_l2Get (M B bp op bq oq k g cw cap lq cq a y : Nat) (lw : Nat) (x : Int) (ys : List Int) : World → Value → Prop := fun w v => ∃ g' c', v = .slice (some ⟨g', 0, none⟩) (ys ++ [x]).length c' ∧ ORow 3 1 w g' c' (ys ++ [x]).length ((ys ++ [x]).map (Value.int .i64)) ∧ c' ≤ 9223372036854775807 ∧ M ≤ g'

def fl_l2Get (M B bp op bq oq k g cw cap lq cq a y : Nat) (lw : Nat) (x : Int) (ys : List Int) : List Fact := [
  fIs 14 (.slice (some ⟨g, 0, none⟩) ys.length cap),
  fIs 15 (.pointer (some ⟨B, 0, none⟩)),
  fIs 16 (.slice (some ⟨bp, op, none⟩) lw cw),
  fIs 17 (.slice (some ⟨bq, oq, none⟩) lq cq),
  fIs 18 (.int .i64 (k : Int)),
  fIs 19 (.pointer (some ⟨bq, oq + k, none⟩)),
  fIs 20 (.int .i64 (a : Int)),
  fIs 21 (.pointer (some ⟨bp, op + a, none⟩)),
  fIs 22 (.int .i64 x),
  ⟨[23], [10], fun s d w => d 10 = false → ∃ b, s 23 = .slice (some ⟨b, 0, none⟩) 1 1 ∧ w.heap[b]? = some (.cells #[.int .i64 x] 3 (0, 0))⟩,
  fK 24 (k10_l2Get M B bp op bq oq k g cw cap lq cq a y lw x ys),
  fK 5 (k11_l2Get M B bp op bq oq k g cw cap lq cq a y lw x ys)]

theorem st_l2Get (M B bp op bq oq k g cw cap lq cq a y : Nat) (lw : Nat) (x : Int) (ys : List Int) : ∀ F ∈ fl_l2Get M B bp op bq oq k g cw cap lq cq a y lw x ys, F.Stab :=
  stab_cons (fIs_stab _ _) <|
  stab_cons (fIs_stab _ _) <|
  stab_cons (fIs_stab _ _) <|
  stab_cons (fIs_stab _ _) <|
  stab_cons (fIs_stab _ _) <|
  stab_cons (fIs_stab _ _) <|
  stab_cons (fIs_stab _ _) <|
  stab_cons (fIs_stab _ _) <|
  stab_cons (fIs_stab _ _) <|
  stab_cons (by intro s d w w' hg h hd; obtain ⟨b, h1, h2⟩ := h hd; exact ⟨b, h1, hg.cells h2⟩) <|
  stab_cons (fK_stab (by rintro w w' v hg ⟨g', c', h1, h2, h3⟩; exact ⟨g', c', h1, h2.gr hg, h3⟩)) <|
  stab_cons (fK_stab (by rintro w w' v hg ⟨g', c', h1, h2, h3⟩; exact ⟨g', c', h1, h2.gr hg, h3⟩)) stab_nil

theorem grl_l2Get (M B bp op bq oq k g cw cap lq cq a y : Nat) (lw : Nat) (x : Int) (ys : List Int) : ∀ j, [9, 10, 11].contains j = false → ∀ s d w w', Grew w w' g → (factsOf (fl_l2Get M B bp op bq oq k g cw cap lq cq a y lw x ys) j).body s d w → (factsOf (fl_l2Get M B bp op bq oq k g cw cap lq cq a y lw x ys) j).body s d w' := by
  intro j hj s d w w' hk hb
  rcases j with _ | _ | _ | _ | _ | _ | _ | _ | _ | _ | _ | _ | j
  all_goals first | exact hb | (exfalso; revert hj; decide) | trivial

theorem ask9_l2Get {M B bp op bq oq k g cw cap lq cq a y lw : Nat} {x : Int} {ys : List Int} (j : Nat) (hj : j < 12) (h : (factsOf (fl_l2Get M B bp op bq oq k g cw cap lq cq a y lw x ys) j).dones.contains 9 = true) : j = 9 := by
  rcases j with _ | _ | _ | _ | _ | _ | _ | _ | _ | _ | _ | _ | j
  all_goals first | rfl | exact absurd (show false = true from h) (by decide) | omega

theorem asks_l2Get {M B bp op bq oq k g cw cap lq cq a y lw : Nat} {x : Int} {ys : List Int} (j : Nat) (hj : j < 12) (h : [9, 10, 11].contains j = true ∨ (factsOf (fl_l2Get M B bp op bq oq k g cw cap lq cq a y lw x ys) j).dones.contains 10 = true) : j = 9 ∨ j = 10 ∨ j = 11 := by
  rcases j with _ | _ | _ | _ | _ | _ | _ | _ | _ | _ | _ | _ | j
  all_goals first | (rcases h with h | h <;> exact absurd (show false = true from h) (by decide)) | omega

theorem getAll_step (ws all : List Int) (k : Nat) (h : k < all.length) : getAll ws (all.take (k + 1)) = getAll ws (all.take k) ++ [getZ ws all[k]] := by
  rw [List.take_succ_eq_append_getElem h]
  unfold getAll
  rw [List.map_append]
  rfl
theorem getZ_get {ws : List Int} {a : Nat} (h : a < ws.length) : getZ ws (a : Int) = ws[a] := by simp [getZ, h]

set_option maxRecDepth 100000 in
set_option maxHeartbeats 2000000 in
theorem spec_l2Get (p : Option Addr) (cw : Nat) (ws : List Int) (q : Option Addr) (cq : Nat) (all : List Int) (w : World) (hp : IntsAt w p ws) (hq : IntsAt w q all) (hl : all.length ≤ 1000) (ha : ∀ a ∈ all, 0 ≤ a ∧ a < (ws.length : Int)) :
    Calls Try.prog 86 #[.agg #[.slice p ws.length cw], .slice q all.length cq] w fun e w' => ∃ g c, e = .returned (.slice (some ⟨g, 0, none⟩) (getAll ws all).length c) ∧ ORow 3 1 w' g c (getAll ws all).length ((getAll ws all).map (Value.int .i64)) ∧ (getAll ws all).length ≤ c ∧ c ≤ 9223372036854775807 ∧ w.heap.size ≤ g ∧ Below w.heap.size w w' := by
  have HP := Hid.intro hp
  have HQ := Hid.intro hq
  have HA := Hid.intro ha
  clear hp hq ha
  have hb2 : ∀ o o', Below w.heap.size w ((w.alloc o).alloc o') := fun o o' => ((Below.refl _ w).alloc (Nat.le_refl _) o).alloc (by simp) o'
  go_enter Try.func86, Try.ntmps86
  go_wp2_with fail
  go_loopw [5, 6] (fun v i wr => ∃ (k g c : Nat), k ≤ all.length ∧ i = .int .i64 k ∧ v = .slice (some ⟨g, 0, none⟩) (getAll ws (all.take k)).length c ∧ Hid (ORow 3 1 wr g c (getAll ws (all.take k)).length ((getAll ws (all.take k)).map (Value.int .i64))) ∧ c ≤ 9223372036854775807 ∧ w.heap.size + 1 ≤ g ∧ Hid (Below w.heap.size w wr) ∧ wr.heap[w.heap.size]? = some (.cells #[.slice p ws.length cw] 43 (0, 0))) (fun _ i _ => all.length - (intOf i).toNat)
  case atStart =>
    refine ⟨0, w.heap.size + 1, 0, Nat.zero_le _, rfl, rfl, ⟨#[], nw_at _ (by simp), rfl, Nat.le_refl _, rfl, rfl⟩, by omega, Nat.le_refl _, hb2 _ _, (Below.heap_alloc _ _ _ (by simp)).trans (nw_at _ rfl)⟩
  case round =>
    obtain ⟨k, g, c, hk, rfl, rfl, HO, hc, hg, HB, hbox⟩ := hrel
    by_cases hlt : k < all.length
    · rcases HQ.out with hx | ⟨bq, oq, rfl, hbq, hcq⟩
      · subst hx; simp at hlt
      obtain ⟨ha0, ha1⟩ := HA.out all[k] (List.getElem_mem hlt)
      obtain ⟨a, haE⟩ := Int.eq_ofNat_of_zero_le ha0
      have hal : a < ws.length := by omega
      rcases HP.out with hx | ⟨bp, op, rfl, hbp, hcp⟩
      · subst hx; simp at hal
      have hk0 : (0 : Int) ≤ (k : Int) := by omega
      have hk1 : (k : Int) < (all.length : Int) := by omega
      have hcq1 := hcq k hlt
      rw [haE] at hcq1
      have hcp1 := hcp a hal
      have HST := Hid.intro (getAll_step ws all k hlt)
      rw [haE, getZ_get hal] at HST
      clear hcq hcp HP HQ
      obtain ⟨x, hx⟩ : ∃ x, x = ws[a] := ⟨_, rfl⟩
      rw [← hx] at hcp1 HST
      clear hx
      have hyl : (getAll ws (all.take k)).length ≤ 1000 := by rw [getAll_len]; simp; omega
      obtain ⟨ys, hys⟩ : ∃ ys, ys = getAll ws (all.take k) := ⟨_, rfl⟩
      rw [← hys] at HO HST hyl ⊢
      clear hys
      have hbx := hbox
      obtain ⟨M, hM⟩ : ∃ M, M = w.heap.size + 1 := ⟨_, rfl⟩
      have hwl := HB.out.size
      have hBl : w.heap.size < M := by omega
      have hMl : M ≤ wr.heap.size := by have := heap_lt hbox; omega
      have hMg : M ≤ g := by omega
      have hbqM : bq < M := by omega
      have hbpM : bp < M := by omega
      have cq1 : wr.cell? ⟨bq, oq + k, none⟩ = some (.int .i64 (a : Int)) := (HB.out.cell (p := ⟨bq, oq + k, none⟩) hbq).trans hcq1
      have cp1 : wr.cell? ⟨bp, op + a, none⟩ = some (.int .i64 x) := (HB.out.cell (p := ⟨bp, op + a, none⟩) hbp).trans hcp1
      have hkB : ∀ W, Below M wr W → W.cell? ⟨w.heap.size, 0, none⟩ = some (.slice (some ⟨bp, op, none⟩) ws.length cw) := fun W h => (h.cell (p := ⟨w.heap.size, 0, none⟩) hBl).trans (heap_cell hbx 0)
      have hkq : ∀ W, Below M wr W → W.cell? ⟨bq, oq + k, none⟩ = some (.int .i64 (a : Int)) := fun W h => (h.cell (p := ⟨bq, oq + k, none⟩) hbqM).trans cq1
      have hkp : ∀ W, Below M wr W → W.cell? ⟨bp, op + a, none⟩ = some (.int .i64 x) := fun W h => (h.cell (p := ⟨bp, op + a, none⟩) hbpM).trans cp1
      have hCM : ∀ W, Below M wr W → M ≤ W.heap.size := fun W h => Nat.le_trans hMl h.size
      have hCg : ∀ W W', Below M wr W → Gr W W' → Below M wr W' := fun W W' h hg => h.trans (hg.mono (hCM W h))
      have hCs : ∀ W W', Below M wr W → Grew W W' g → Below M wr W' := fun W W' h hg => h.trans ⟨hg.os, hg.tape, hg.output, hg.size, fun i hi => hg.block i (by have := hCM W h; omega) (by omega)⟩
      have hcap : c ≤ maxLen := hc
      have hylen : ys.length ≤ 1000 := hyl
      have hak : (0 : Int) ≤ (a : Int) := by omega
      have hak1 : (a : Int) < (ws.length : Int) := by omega
      have HBW := Hid.intro (fun W (h : Below M wr W) => HB.out.trans (h.mono (show w.heap.size ≤ M by omega)))
      have hOr := HO.out
      have hbM : ∀ W, Below M wr W → W.heap[w.heap.size]? = some (.cells #[.slice (some ⟨bp, op, none⟩) ws.length cw] 43 (0, 0)) := fun W h => (h.block w.heap.size (by omega)).trans hbox
      have HBM := Hid.intro hbM
      clear hbM HO hcq1 hcp1 cq1 cp1 hbox hbx HB hb2 HA
      have hMw : w.heap.size + 1 ≤ M := by omega
      clear hM
      go_wp2_with fail
      refine wp_region_fl (by kernel_rfl) (fl_l2Get M w.heap.size bp op bq oq k g cw c all.length cq a 0 ws.length x ys) (fun d W => Below M wr W ∧ (d 10 = false → ORow 3 1 W g c ys.length (ys.map (Value.int .i64)))) [14, 15, 16, 17, 18, 19, 20, 21, 22, 23, 24, 5] (by kernel_rfl) (by kernel_rfl) (by kernel_rfl) ?c0 ?looks ?done
      case looks =>
        intro hcl i o ho
        rcases i with _ | _ | _ | _ | _ | _ | _ | _ | _ | _ | _ | _ | i
        · simp at ho; subst ho
          refine fo_det (st_l2Get M w.heap.size bp op bq oq k g cw c all.length cq a 0 ws.length x ys) hcl rfl rfl rfl rfl (by kernel_rfl) (fun _ _ h => h) (fun done ρ W hat => ?_)
          have e5 : ρ (.tmp 5) = .slice (some ⟨g, 0, none⟩) ys.length c := hat.oldB 5 (by kernel_rfl)
          have hC := hat.cls
          have hc := hat.con
          simp only [execOp, e5]
          go_simp
        · simp at ho; subst ho
          refine fo_det (st_l2Get M w.heap.size bp op bq oq k g cw c all.length cq a 0 ws.length x ys) hcl rfl rfl rfl rfl (by kernel_rfl) (fun _ _ h => h) (fun done ρ W hat => ?_)
          have e2 : ρ (.tmp 2) = .pointer (some ⟨w.heap.size, 0, none⟩) := hat.out 2 (by kernel_rfl)
          have hC := hat.cls
          have hc := hat.con
          simp only [execOp, e2]
          go_simp
        · simp at ho; subst ho
          refine fo_det (st_l2Get M w.heap.size bp op bq oq k g cw c all.length cq a 0 ws.length x ys) hcl rfl rfl rfl rfl (by kernel_rfl) (fun _ _ h => h) (fun done ρ W hat => ?_)
          have e15 : ρ (.tmp 15) = .pointer (some ⟨w.heap.size, 0, none⟩) := fIs_at (d := 15) (v := .pointer (some ⟨w.heap.size, 0, none⟩)) (hat.fact 1 (by kernel_rfl))
          have hC := hat.cls
          have c0 := hkB W hC.1
          have hc := hat.con
          simp only [execOp, e15]
          go_simp
        · simp at ho; subst ho
          refine fo_det (st_l2Get M w.heap.size bp op bq oq k g cw c all.length cq a 0 ws.length x ys) hcl rfl rfl rfl rfl (by kernel_rfl) (fun _ _ h => h) (fun done ρ W hat => ?_)
          have e1 : ρ (.tmp 1) = .slice (some ⟨bq, oq, none⟩) all.length cq := hat.out 1 (by kernel_rfl)
          have hC := hat.cls
          have hc := hat.con
          simp only [execOp, e1]
          go_simp
        · simp at ho; subst ho
          refine fo_det (st_l2Get M w.heap.size bp op bq oq k g cw c all.length cq a 0 ws.length x ys) hcl rfl rfl rfl rfl (by kernel_rfl) (fun _ _ h => h) (fun done ρ W hat => ?_)
          have e6 : ρ (.tmp 6) = .int .i64 (k : Int) := hat.out 6 (by kernel_rfl)
          have hC := hat.cls
          have hc := hat.con
          simp only [execOp, e6]
          go_simp
        · simp at ho; subst ho
          refine fo_det (st_l2Get M w.heap.size bp op bq oq k g cw c all.length cq a 0 ws.length x ys) hcl rfl rfl rfl rfl (by kernel_rfl) (fun _ _ h => h) (fun done ρ W hat => ?_)
          have e17 : ρ (.tmp 17) = .slice (some ⟨bq, oq, none⟩) all.length cq := fIs_at (d := 17) (v := .slice (some ⟨bq, oq, none⟩) all.length cq) (hat.fact 3 (by kernel_rfl))
          have e18 : ρ (.tmp 18) = .int .i64 (k : Int) := fIs_at (d := 18) (v := .int .i64 (k : Int)) (hat.fact 4 (by kernel_rfl))
          have hC := hat.cls
          have hc := hat.con
          simp only [execOp, e17, e18]
          go_simp
        · simp at ho; subst ho
          refine fo_det (st_l2Get M w.heap.size bp op bq oq k g cw c all.length cq a 0 ws.length x ys) hcl rfl rfl rfl rfl (by kernel_rfl) (fun _ _ h => h) (fun done ρ W hat => ?_)
          have e19 : ρ (.tmp 19) = .pointer (some ⟨bq, oq + k, none⟩) := fIs_at (d := 19) (v := .pointer (some ⟨bq, oq + k, none⟩)) (hat.fact 5 (by kernel_rfl))
          have hC := hat.cls
          have c1 := hkq W hC.1
          have hc := hat.con
          simp only [execOp, e19]
          go_simp
        · simp at ho; subst ho
          refine fo_det (st_l2Get M w.heap.size bp op bq oq k g cw c all.length cq a 0 ws.length x ys) hcl rfl rfl rfl rfl (by kernel_rfl) (fun _ _ h => h) (fun done ρ W hat => ?_)
          have e16 : ρ (.tmp 16) = .slice (some ⟨bp, op, none⟩) ws.length cw := fIs_at (d := 16) (v := .slice (some ⟨bp, op, none⟩) ws.length cw) (hat.fact 2 (by kernel_rfl))
          have e20 : ρ (.tmp 20) = .int .i64 (a : Int) := fIs_at (d := 20) (v := .int .i64 (a : Int)) (hat.fact 6 (by kernel_rfl))
          have hC := hat.cls
          have hc := hat.con
          simp only [execOp, e16, e20]
          go_simp
        · simp at ho; subst ho
          refine fo_det (st_l2Get M w.heap.size bp op bq oq k g cw c all.length cq a 0 ws.length x ys) hcl rfl rfl rfl rfl (by kernel_rfl) (fun _ _ h => h) (fun done ρ W hat => ?_)
          have e21 : ρ (.tmp 21) = .pointer (some ⟨bp, op + a, none⟩) := fIs_at (d := 21) (v := .pointer (some ⟨bp, op + a, none⟩)) (hat.fact 7 (by kernel_rfl))
          have hC := hat.cls
          have c2 := hkp W hC.1
          have hc := hat.con
          simp only [execOp, e21]
          go_simp
        · simp at ho; subst ho
          refine fo_grow (st_l2Get M w.heap.size bp op bq oq k g cw c all.length cq a 0 ws.length x ys) hcl rfl rfl (fun done ρ W hat => ?_)
          have e22 : ρ (.tmp 22) = .int .i64 x := fIs_at (d := 22) (v := .int .i64 x) (hat.fact 8 (by kernel_rfl))
          have hC := hat.cls
          refine up_val (.slice (some ⟨W.heap.size, 0, none⟩) 1 1) (W.alloc (.cells #[.int .i64 x] 3)) (by simp only [execOp]; go_simp) ?_
          refine ⟨⟨hCg W _ hC.1 (below_nw _ _), fun h => (hC.2 h).gr (below_nw _ _)⟩, below_nw _ _, fun _ => ⟨W.heap.size, rfl, nw_at _ rfl⟩, fun j hj hcj => ?_⟩
          have h10 : j = 9 := ask9_l2Get j (hat.lt j hj) hcj
          subst h10; have := hat.new; rw [hj] at this; cases this
        · simp at ho; subst ho
          refine fo_rel (S := fun w w' => Grew w w' g) (E := [9, 10, 11]) (grl_l2Get M w.heap.size bp op bq oq k g cw c all.length cq a 0 ws.length x ys) hcl rfl rfl (fun done ρ W hat => ?_)
          have e14 : ρ (.tmp 14) = .slice (some ⟨g, 0, none⟩) ys.length c := fIs_at (d := 14) (v := .slice (some ⟨g, 0, none⟩) ys.length c) (hat.fact 0 (by kernel_rfl))
          have hC := hat.cls
          obtain ⟨b, k1, k2⟩ := (hat.fact 9 (by kernel_rfl)) (show done 10 = false from hat.new)
          have k1' : ρ (.tmp 23) = .slice (some ⟨b, 0, none⟩) 1 1 := k1
          refine ty_app_some ys [x] rfl e14 (hC.2 hat.new) hcap k1' (.inr ⟨b, 0, rfl, heap_lt k2, fun i hi => by simp at hi; subst hi; exact heap_cell k2 0⟩) (by simp; omega) ?_
          rintro v W1 ⟨g', c', hv, hO, hc1, hc2, hgo, hgr⟩
          refine ⟨⟨hCs W W1 hC.1 hgr, fun h => absurd (show true = false from h) (by decide)⟩, hgr, fK_mk (K := k10_l2Get M w.heap.size bp op bq oq k g cw c all.length cq a 0 ws.length x ys) ⟨g', c', (updV_same _ _ _).trans hv, hO, hc2, ?_⟩, fun j hj hcj => ?_⟩
          · rcases hgo with rfl | h
            · exact hMg
            · exact Nat.le_trans (hCM W hC.1) h
          · rcases asks_l2Get j (hat.lt j hj) hcj with rfl | rfl | rfl
            · intro hd; exact absurd (show true = false from hd) (by decide)
            · have := hat.new; rw [hj] at this; cases this
            · have hcl2 := hat.clos 11 _ hj rfl ⟨10, .data⟩ (by simp) rfl
              have := hat.new; rw [hcl2] at this; cases this
        · simp at ho; subst ho
          refine fo_grow (st_l2Get M w.heap.size bp op bq oq k g cw c all.length cq a 0 ws.length x ys) hcl rfl rfl (fun done ρ W hat => ?_)
          have hC := hat.cls
          have kk := (fK_at (d := 24) (K := k10_l2Get M w.heap.size bp op bq oq k g cw c all.length cq a 0 ws.length x ys) (hat.fact 10 (by kernel_rfl)))
          refine up_val (ρ (.tmp 24)) W (by simp only [execOp]; rfl) ?_
          refine ⟨hC, Gr.refl _, fK_mk (K := k11_l2Get M w.heap.size bp op bq oq k g cw c all.length cq a 0 ws.length x ys) ?_, free_spec (by kernel_rfl) hat.lt⟩
          rw [updV_same]; exact kk
        · simp at ho
      case c0 => exact ⟨(Below.refl _ _).drew, fun _ => hOr⟩
      case done =>
        intro f W hC hf hout
        obtain ⟨g', c', k1, k2, k3, k4⟩ := fK_at (d := 5) (K := k11_l2Get M w.heap.size bp op bq oq k g cw c all.length cq a 0 ws.length x ys) (hf 11 (by decide))
        have k1' : f 5 = _ := k1
        have e6 : f 6 = _ := hout 6 (by kernel_rfl)
        simp only [fill, k1']
        go_simp
        go_wp2
        go_roundw
        case rel =>
          refine ⟨k + 1, g', c', by omega, by go_num, by rw [HST.out]; simp, ?_, k3, by omega, HBW.out W hC.1, HBM.out W hC.1⟩
          show ORow _ _ _ _ _ _ _
          rw [HST.out]; exact k2
        case measure => simp [intOf]; omega
    · have hke : k = all.length := by omega
      subst hke
      rw [List.take_length] at HO ⊢
      have hcl : (getAll ws all).length ≤ c := by obtain ⟨_, _, _, h, _⟩ := HO.out; exact h
      have hk1 : ¬ ((all.length : Nat) : Int) < ((all.length : Nat) : Int) := by omega
      go_wp2
      go_ret
      exact ⟨g, c, rfl, HO.out, hcl, hc, by omega, HB.out⟩

end Go.Proofs.Ytlifkfemdknndaa
