/-
  l2Put of the model: words put to addresses, in place.
-/
import Derived.Test.YtlifkfemdknndaaSpcC
namespace Go.Proofs.Ytlifkfemdknndaa
open Go.RowKit
set_option linter.unusedSimpArgs false
set_option linter.unusedVariables false

theorem ORow.free {E s : Nat} {w : World} {b cap n : Nat} {cs : List Value} (h : ORow E s w b cap n cs) (i : Nat) : w.frozen? ⟨b, i, none⟩ = false := by
  obtain ⟨cur, h1, _⟩ := h
  simp [World.frozen?, h1]

def fl_l2Put (B g lw cw bq oq lq cq bd od ld cd bl ol ll cl k a : Nat) (o d l : Int) (new : List Int) : List Fact := [
  fIs 16 (.pointer (some ⟨B, 0, none⟩)),
  fIs 17 (.slice (some ⟨g, 0, none⟩) lw cw),
  fIs 18 (.slice (some ⟨bq, oq, none⟩) lq cq),
  fIs 19 (.int .i64 (k : Int)),
  fIs 20 (.pointer (some ⟨bq, oq + k, none⟩)),
  fIs 21 (.int .i64 (a : Int)),
  fIs 22 (.pointer (some ⟨B, 0, none⟩)),
  fIs 23 (.slice (some ⟨g, 0, none⟩) lw cw),
  fIs 24 (.slice (some ⟨bq, oq, none⟩) lq cq),
  fIs 25 (.int .i64 (k : Int)),
  fIs 26 (.pointer (some ⟨bq, oq + k, none⟩)),
  fIs 27 (.int .i64 (a : Int)),
  fIs 28 (.pointer (some ⟨g, a, none⟩)),
  fIs 29 (.int .i64 o),
  fIs 30 (.slice (some ⟨bd, od, none⟩) ld cd),
  fIs 31 (.int .i64 (k : Int)),
  fIs 32 (.pointer (some ⟨bd, od + k, none⟩)),
  fIs 33 (.int .i64 d),
  fIs 34 (.slice (some ⟨bl, ol, none⟩) ll cl),
  fIs 35 (.int .i64 (k : Int)),
  fIs 36 (.pointer (some ⟨bl, ol + k, none⟩)),
  fIs 37 (.int .i64 l),
  fIs 38 (.int .i64 (wrdPutZ o d l)),
  fIs 39 (.pointer (some ⟨g, a, none⟩)),
  ⟨[], [], fun _ _ w => ORow 3 1 w g cw lw (new.map (Value.int .i64))⟩]

theorem st_l2Put (B g lw cw bq oq lq cq bd od ld cd bl ol ll cl k a : Nat) (o d l : Int) (new : List Int) : ∀ F ∈ fl_l2Put B g lw cw bq oq lq cq bd od ld cd bl ol ll cl k a o d l new, F.Stab :=
  stab_cons (fIs_stab _ _) <|
  stab_cons (fIs_stab _ _) <|
  stab_cons (fIs_stab _ _) <|
  stab_cons (fIs_stab _ _) <|
  stab_cons (fIs_stab _ _) <|
  stab_cons (fIs_stab _ _) <|
  stab_cons (fIs_stab _ _) <|
  stab_cons (fIs_stab _ _) <|
  stab_cons (fIs_stab _ _) <|
  stab_cons (fIs_stab _ _) <|
  stab_cons (fIs_stab _ _) <|
  stab_cons (fIs_stab _ _) <|
  stab_cons (fIs_stab _ _) <|
  stab_cons (fIs_stab _ _) <|
  stab_cons (fIs_stab _ _) <|
  stab_cons (fIs_stab _ _) <|
  stab_cons (fIs_stab _ _) <|
  stab_cons (fIs_stab _ _) <|
  stab_cons (fIs_stab _ _) <|
  stab_cons (fIs_stab _ _) <|
  stab_cons (fIs_stab _ _) <|
  stab_cons (fIs_stab _ _) <|
  stab_cons (fIs_stab _ _) <|
  stab_cons (fIs_stab _ _) <|
  stab_cons (by intro s d w w' hg h; exact h.gr hg) stab_nil

theorem any_l2Put (B g lw cw bq oq lq cq bd od ld cd bl ol ll cl k a : Nat) (o d l : Int) (new : List Int) : ∀ j, [24].contains j = false → ∀ s dn w w', True → (factsOf (fl_l2Put B g lw cw bq oq lq cq bd od ld cd bl ol ll cl k a o d l new) j).body s dn w → (factsOf (fl_l2Put B g lw cw bq oq lq cq bd od ld cd bl ol ll cl k a o d l new) j).body s dn w' := by
  intro j hj s dn w w' _ hb
  rcases j with _ | _ | _ | _ | _ | _ | _ | _ | _ | _ | _ | _ | _ | _ | _ | _ | _ | _ | _ | _ | _ | _ | _ | _ | _ | j
  all_goals first | exact hb | (exfalso; revert hj; decide) | trivial

theorem ask_l2Put {B g lw cw bq oq lq cq bd od ld cd bl ol ll cl k a : Nat} {o d l : Int} {new : List Int} (j : Nat) (hj : j < 25) (h : [24].contains j = true ∨ (factsOf (fl_l2Put B g lw cw bq oq lq cq bd od ld cd bl ol ll cl k a o d l new) j).dones.contains 24 = true) : j = 24 := by
  rcases j with _ | _ | _ | _ | _ | _ | _ | _ | _ | _ | _ | _ | _ | _ | _ | _ | _ | _ | _ | _ | _ | _ | _ | _ | _ | j
  all_goals first | (rcases h with h | h <;> exact absurd (show false = true from h) (by decide)) | omega

/-- a row of ints that is not block g -/
def Off (g : Nat) (p : Option Addr) (l : List Int) : Prop := l = [] ∨ ∀ b off, p = some ⟨b, off, none⟩ → b ≠ g

set_option maxRecDepth 100000 in
set_option maxHeartbeats 2000000 in
theorem spec_l2Put (g cw : Nat) (ws : List Int) (q : Option Addr) (cq : Nat) (all : List Int) (pd : Option Addr) (cd : Nat) (data : List Int) (pl : Option Addr) (cl : Nat) (lanes : List Int) (w : World)
    (hg : ORow 3 1 w g cw ws.length (ws.map (Value.int .i64))) (hq : IntsAt w q all) (hqg : Off g q all) (hd : IntsAt w pd data) (hdg : Off g pd data) (hl : IntsAt w pl lanes) (hlg : Off g pl lanes) (hal : all.length ≤ 1000) (hdl : all.length ≤ data.length) (hll : all.length ≤ lanes.length) (ha : ∀ a ∈ all, 0 ≤ a ∧ a < (ws.length : Int)) :
    Calls Try.prog 87 #[.agg #[.slice (some ⟨g, 0, none⟩) ws.length cw], .slice q all.length cq, .slice pd data.length cd, .slice pl lanes.length cl] w fun e w' => e = .returned (.agg #[.slice (some ⟨g, 0, none⟩) ws.length cw]) ∧ ORow 3 1 w' g cw ws.length ((putAll ws all data lanes).map (Value.int .i64)) ∧ Kept (fun k => k = g) w w' := by
  have HG := Hid.intro hg
  have HQ := Hid.intro (And.intro hq hqg)
  have HD := Hid.intro (And.intro hd hdg)
  have HL := Hid.intro (And.intro hl hlg)
  have HA := Hid.intro ha
  have hgl := hg.lt
  clear hg hq hqg hd hdg hl hlg ha
  have hb2 : ∀ o o', Below w.heap.size w ((w.alloc o).alloc o') := fun o o' => ((Below.refl _ w).alloc (Nat.le_refl _) o).alloc (by simp) o'
  go_enter Try.func87, Try.ntmps87
  go_wp2_with fail
  go_loopw [9] (fun i wr => ∃ (k : Nat), k ≤ all.length ∧ i = .int .i64 k ∧ Hid (ORow 3 1 wr g cw ws.length ((putN ws all data lanes k).map (Value.int .i64))) ∧ Hid (Kept (fun k => k = g) w wr) ∧ Hid (wr.heap[w.heap.size]? = some (.cells #[.slice (some ⟨g, 0, none⟩) ws.length cw] 43 (0, 0)) ∧ wr.heap[w.heap.size + 1]? = some (.cells #[.slice none 0 0] 43 (0, 0)))) (fun i _ => all.length - (intOf i).toNat)
  case atStart =>
    exact ⟨0, Nat.zero_le _, rfl, HG.out.of ((hb2 _ _).block g hgl), Kept.of_below (hb2 _ _), (Below.heap_alloc _ _ _ (by simp)).trans (nw_at _ rfl), nw_at _ (by simp)⟩
  case round =>
    obtain ⟨k, hk, rfl, HO, HK, HX⟩ := hrel
    by_cases hlt : k < all.length
    · rcases HQ.out.1 with hx | ⟨bq, oq, rfl, hbq, hcq⟩
      · subst hx; simp at hlt
      rcases HD.out.1 with hx | ⟨bd, od, rfl, hbd, hcd⟩
      · rw [hx] at hdl; simp only [List.length_nil] at hdl; omega
      rcases HL.out.1 with hx | ⟨bl, ol, rfl, hbl, hcl0⟩
      · rw [hx] at hll; simp only [List.length_nil] at hll; omega
      obtain ⟨ha0, ha1⟩ := HA.out all[k] (List.getElem_mem hlt)
      obtain ⟨a, haE⟩ := Int.eq_ofNat_of_zero_le ha0
      have hal : a < ws.length := by omega
      have nq : bq ≠ g := by
        rcases HQ.out.2 with h | h
        · subst h; simp at hlt
        · exact h bq oq rfl
      have nd : bd ≠ g := by
        rcases HD.out.2 with h | h
        · rw [h] at hdl; simp only [List.length_nil] at hdl; omega
        · exact h bd od rfl
      have nl : bl ≠ g := by
        rcases HL.out.2 with h | h
        · rw [h] at hll; simp only [List.length_nil] at hll; omega
        · exact h bl ol rfl
      have cq1 := (HK.out.cell (p := ⟨bq, oq + k, none⟩) hbq nq).trans (hcq k hlt)
      have cd1 := (HK.out.cell (p := ⟨bd, od + k, none⟩) hbd nd).trans (hcd k (by omega))
      have cl1 := (HK.out.cell (p := ⟨bl, ol + k, none⟩) hbl nl).trans (hcl0 k (by omega))
      rw [haE] at cq1
      have hlen := putN_len ws all data lanes k
      have co1 : wr.cell? ⟨g, a, none⟩ = some (.int .i64 (getZ (putN ws all data lanes k) (a : Int))) := by
        have hal' : a < (putN ws all data lanes k).length := by omega
        rw [getZ_get hal']
        exact HO.out.get a _ (by simp [hal'])
      have HZ : Hid ((putN ws all data lanes k).set a (wrdPutZ (getZ (putN ws all data lanes k) (a : Int)) data[k] lanes[k]) = putN ws all data lanes (k + 1)) := Hid.intro (by
        show _ = put1 _ _ _ _
        have e1 : all.getD k 0 = (a : Int) := by simp [hlt, haE]
        have e2 : data.getD k 0 = data[k] := by simp [show k < data.length by omega]
        have e3 : lanes.getD k 0 = lanes[k] := by simp [show k < lanes.length by omega]
        rw [e1, e2, e3]
        rfl)
      obtain ⟨o, ho⟩ : ∃ o, o = getZ (putN ws all data lanes k) (a : Int) := ⟨_, rfl⟩
      obtain ⟨d, hd⟩ : ∃ d, d = data[k] := ⟨_, rfl⟩
      obtain ⟨l, hl⟩ : ∃ l, l = lanes[k] := ⟨_, rfl⟩
      rw [← hd, ← hl, ← ho] at HZ
      rw [← ho] at co1
      rw [← hd] at cd1
      rw [← hl] at cl1
      clear ho hd hl hcq hcd hcl0 haE HQ HD HL HA
      obtain ⟨zs, hzs⟩ : ∃ zs, zs = putN ws all data lanes (k + 1) := ⟨_, rfl⟩
      rw [← hzs] at HZ
      have HZS := Hid.intro hzs
      clear hzs
      have hbx := HX.out
      have hws : w.heap.size + 2 ≤ wr.heap.size := by have := heap_lt hbx.2; omega
      have hkB : ∀ W, Kept (fun k => k = g) wr W → W.cell? ⟨w.heap.size, 0, none⟩ = some (.slice (some ⟨g, 0, none⟩) ws.length cw) := fun W h => (h.cell (p := ⟨w.heap.size, 0, none⟩) (by show w.heap.size < _; omega) (by show ¬ w.heap.size = g; omega)).trans (heap_cell hbx.1 0)
      have hkq : ∀ W, Kept (fun k => k = g) wr W → W.cell? ⟨bq, oq + k, none⟩ = some (.int .i64 (a : Int)) := fun W h => (h.cell (p := ⟨bq, oq + k, none⟩) (by show bq < _; omega) nq).trans cq1
      have hkd : ∀ W, Kept (fun k => k = g) wr W → W.cell? ⟨bd, od + k, none⟩ = some (.int .i64 d) := fun W h => (h.cell (p := ⟨bd, od + k, none⟩) (by show bd < _; omega) nd).trans cd1
      have hkl : ∀ W, Kept (fun k => k = g) wr W → W.cell? ⟨bl, ol + k, none⟩ = some (.int .i64 l) := fun W h => (h.cell (p := ⟨bl, ol + k, none⟩) (by show bl < _; omega) nl).trans cl1
      have hOr := HO.out
      have hrow : ∀ W, ORow 3 1 W g cw ws.length ((putN ws all data lanes k).map (Value.int .i64)) → W.cell? ⟨g, a, none⟩ = some (.int .i64 o) := by
        intro W hO
        have := hO.get a (.int .i64 ((putN ws all data lanes k)[a]'(by omega))) (by simp [show a < (putN ws all data lanes k).length by omega])
        rw [this]
        have e := HO.out.get a (.int .i64 ((putN ws all data lanes k)[a]'(by omega))) (by simp [show a < (putN ws all data lanes k).length by omega])
        rw [e] at co1
        exact co1
      have hCg : ∀ (d' : Nat → Bool) (W W' : World), (Kept (fun k => k = g) wr W ∧ (d' 24 = false → ORow 3 1 W g cw ws.length ((putN ws all data lanes k).map (Value.int .i64)))) → Gr W W' → (Kept (fun k => k = g) wr W' ∧ (d' 24 = false → ORow 3 1 W' g cw ws.length ((putN ws all data lanes k).map (Value.int .i64)))) := fun d' W W' h hg => ⟨h.1.trans (Kept.of_below hg), fun hd' => (h.2 hd').gr hg⟩
      have hk0 : (0 : Int) ≤ (k : Int) := by omega
      have hk1 : (k : Int) < (all.length : Int) := by omega
      have hk2 : (k : Int) < (data.length : Int) := by omega
      have hk3 : (k : Int) < (lanes.length : Int) := by omega
      have ha2 : (0 : Int) ≤ (a : Int) := by omega
      have ha3 : (a : Int) < (ws.length : Int) := by omega
      have HKW := Hid.intro (fun W (h : Kept (fun k => k = g) wr W) => HK.out.trans h)
      have HXW := Hid.intro (fun W (h : Kept (fun k => k = g) wr W) => And.intro ((h.block w.heap.size (by omega) (by omega)).trans hbx.1) ((h.block (w.heap.size + 1) (by omega) (by omega)).trans hbx.2))
      clear HO HK HX hbx cq1 cd1 cl1 co1 hb2 HG hlen
      go_wp2_with fail
      refine wp_region_fl (by kernel_rfl) (fl_l2Put w.heap.size g ws.length cw bq oq all.length cq bd od data.length cd bl ol lanes.length cl k a o d l zs) (fun d W => Kept (fun k => k = g) wr W ∧ (d 24 = false → ORow 3 1 W g cw ws.length ((putN ws all data lanes k).map (Value.int .i64)))) [16, 17, 18, 19, 20, 21, 22, 23, 24, 25, 26, 27, 28, 29, 30, 31, 32, 33, 34, 35, 36, 37, 38, 39] (by kernel_rfl) (by kernel_rfl) (by kernel_rfl) ?c0 ?looks ?done
      case looks =>
        intro hcl i o ho
        rcases i with _ | _ | _ | _ | _ | _ | _ | _ | _ | _ | _ | _ | _ | _ | _ | _ | _ | _ | _ | _ | _ | _ | _ | _ | _ | i
        · simp at ho; subst ho
          refine fo_det (st_l2Put w.heap.size g ws.length cw bq oq all.length cq bd od data.length cd bl ol lanes.length cl k a o d l zs) hcl rfl rfl rfl rfl (by kernel_rfl) (fun _ _ h => h) (fun done ρ W hat => ?_)
          have e4 : ρ (.tmp 4) = .pointer (some ⟨w.heap.size, 0, none⟩) := hat.out 4 (by kernel_rfl)
          have hC := hat.cls
          have hc := hat.con
          simp only [execOp, e4]
          go_simp
        · simp at ho; subst ho
          refine fo_det (st_l2Put w.heap.size g ws.length cw bq oq all.length cq bd od data.length cd bl ol lanes.length cl k a o d l zs) hcl rfl rfl rfl rfl (by kernel_rfl) (fun _ _ h => h) (fun done ρ W hat => ?_)
          have e16 : ρ (.tmp 16) = .pointer (some ⟨w.heap.size, 0, none⟩) := fIs_at (d := 16) (v := .pointer (some ⟨w.heap.size, 0, none⟩)) (hat.fact 0 (by kernel_rfl))
          have hC := hat.cls
          have c0 := hkB W hC.1
          have hc := hat.con
          simp only [execOp, e16]
          go_simp
        · simp at ho; subst ho
          refine fo_det (st_l2Put w.heap.size g ws.length cw bq oq all.length cq bd od data.length cd bl ol lanes.length cl k a o d l zs) hcl rfl rfl rfl rfl (by kernel_rfl) (fun _ _ h => h) (fun done ρ W hat => ?_)
          have e1 : ρ (.tmp 1) = .slice (some ⟨bq, oq, none⟩) all.length cq := hat.out 1 (by kernel_rfl)
          have hC := hat.cls
          have hc := hat.con
          simp only [execOp, e1]
          go_simp
        · simp at ho; subst ho
          refine fo_det (st_l2Put w.heap.size g ws.length cw bq oq all.length cq bd od data.length cd bl ol lanes.length cl k a o d l zs) hcl rfl rfl rfl rfl (by kernel_rfl) (fun _ _ h => h) (fun done ρ W hat => ?_)
          have e9 : ρ (.tmp 9) = .int .i64 (k : Int) := hat.out 9 (by kernel_rfl)
          have hC := hat.cls
          have hc := hat.con
          simp only [execOp, e9]
          go_simp
        · simp at ho; subst ho
          refine fo_det (st_l2Put w.heap.size g ws.length cw bq oq all.length cq bd od data.length cd bl ol lanes.length cl k a o d l zs) hcl rfl rfl rfl rfl (by kernel_rfl) (fun _ _ h => h) (fun done ρ W hat => ?_)
          have e18 : ρ (.tmp 18) = .slice (some ⟨bq, oq, none⟩) all.length cq := fIs_at (d := 18) (v := .slice (some ⟨bq, oq, none⟩) all.length cq) (hat.fact 2 (by kernel_rfl))
          have e19 : ρ (.tmp 19) = .int .i64 (k : Int) := fIs_at (d := 19) (v := .int .i64 (k : Int)) (hat.fact 3 (by kernel_rfl))
          have hC := hat.cls
          have hc := hat.con
          simp only [execOp, e18, e19]
          go_simp
        · simp at ho; subst ho
          refine fo_det (st_l2Put w.heap.size g ws.length cw bq oq all.length cq bd od data.length cd bl ol lanes.length cl k a o d l zs) hcl rfl rfl rfl rfl (by kernel_rfl) (fun _ _ h => h) (fun done ρ W hat => ?_)
          have e20 : ρ (.tmp 20) = .pointer (some ⟨bq, oq + k, none⟩) := fIs_at (d := 20) (v := .pointer (some ⟨bq, oq + k, none⟩)) (hat.fact 4 (by kernel_rfl))
          have hC := hat.cls
          have c1 := hkq W hC.1
          have hc := hat.con
          simp only [execOp, e20]
          go_simp
        · simp at ho; subst ho
          refine fo_det (st_l2Put w.heap.size g ws.length cw bq oq all.length cq bd od data.length cd bl ol lanes.length cl k a o d l zs) hcl rfl rfl rfl rfl (by kernel_rfl) (fun _ _ h => h) (fun done ρ W hat => ?_)
          have e4 : ρ (.tmp 4) = .pointer (some ⟨w.heap.size, 0, none⟩) := hat.out 4 (by kernel_rfl)
          have hC := hat.cls
          have hc := hat.con
          simp only [execOp, e4]
          go_simp
        · simp at ho; subst ho
          refine fo_det (st_l2Put w.heap.size g ws.length cw bq oq all.length cq bd od data.length cd bl ol lanes.length cl k a o d l zs) hcl rfl rfl rfl rfl (by kernel_rfl) (fun _ _ h => h) (fun done ρ W hat => ?_)
          have e22 : ρ (.tmp 22) = .pointer (some ⟨w.heap.size, 0, none⟩) := fIs_at (d := 22) (v := .pointer (some ⟨w.heap.size, 0, none⟩)) (hat.fact 6 (by kernel_rfl))
          have hC := hat.cls
          have c0 := hkB W hC.1
          have hc := hat.con
          simp only [execOp, e22]
          go_simp
        · simp at ho; subst ho
          refine fo_det (st_l2Put w.heap.size g ws.length cw bq oq all.length cq bd od data.length cd bl ol lanes.length cl k a o d l zs) hcl rfl rfl rfl rfl (by kernel_rfl) (fun _ _ h => h) (fun done ρ W hat => ?_)
          have e1 : ρ (.tmp 1) = .slice (some ⟨bq, oq, none⟩) all.length cq := hat.out 1 (by kernel_rfl)
          have hC := hat.cls
          have hc := hat.con
          simp only [execOp, e1]
          go_simp
        · simp at ho; subst ho
          refine fo_det (st_l2Put w.heap.size g ws.length cw bq oq all.length cq bd od data.length cd bl ol lanes.length cl k a o d l zs) hcl rfl rfl rfl rfl (by kernel_rfl) (fun _ _ h => h) (fun done ρ W hat => ?_)
          have e9 : ρ (.tmp 9) = .int .i64 (k : Int) := hat.out 9 (by kernel_rfl)
          have hC := hat.cls
          have hc := hat.con
          simp only [execOp, e9]
          go_simp
        · simp at ho; subst ho
          refine fo_det (st_l2Put w.heap.size g ws.length cw bq oq all.length cq bd od data.length cd bl ol lanes.length cl k a o d l zs) hcl rfl rfl rfl rfl (by kernel_rfl) (fun _ _ h => h) (fun done ρ W hat => ?_)
          have e24 : ρ (.tmp 24) = .slice (some ⟨bq, oq, none⟩) all.length cq := fIs_at (d := 24) (v := .slice (some ⟨bq, oq, none⟩) all.length cq) (hat.fact 8 (by kernel_rfl))
          have e25 : ρ (.tmp 25) = .int .i64 (k : Int) := fIs_at (d := 25) (v := .int .i64 (k : Int)) (hat.fact 9 (by kernel_rfl))
          have hC := hat.cls
          have hc := hat.con
          simp only [execOp, e24, e25]
          go_simp
        · simp at ho; subst ho
          refine fo_det (st_l2Put w.heap.size g ws.length cw bq oq all.length cq bd od data.length cd bl ol lanes.length cl k a o d l zs) hcl rfl rfl rfl rfl (by kernel_rfl) (fun _ _ h => h) (fun done ρ W hat => ?_)
          have e26 : ρ (.tmp 26) = .pointer (some ⟨bq, oq + k, none⟩) := fIs_at (d := 26) (v := .pointer (some ⟨bq, oq + k, none⟩)) (hat.fact 10 (by kernel_rfl))
          have hC := hat.cls
          have c1 := hkq W hC.1
          have hc := hat.con
          simp only [execOp, e26]
          go_simp
        · simp at ho; subst ho
          refine fo_det (st_l2Put w.heap.size g ws.length cw bq oq all.length cq bd od data.length cd bl ol lanes.length cl k a o d l zs) hcl rfl rfl rfl rfl (by kernel_rfl) (fun _ _ h => h) (fun done ρ W hat => ?_)
          have e23 : ρ (.tmp 23) = .slice (some ⟨g, 0, none⟩) ws.length cw := fIs_at (d := 23) (v := .slice (some ⟨g, 0, none⟩) ws.length cw) (hat.fact 7 (by kernel_rfl))
          have e27 : ρ (.tmp 27) = .int .i64 (a : Int) := fIs_at (d := 27) (v := .int .i64 (a : Int)) (hat.fact 11 (by kernel_rfl))
          have hC := hat.cls
          have hc := hat.con
          simp only [execOp, e23, e27]
          go_simp
        · simp at ho; subst ho
          refine fo_det (st_l2Put w.heap.size g ws.length cw bq oq all.length cq bd od data.length cd bl ol lanes.length cl k a o d l zs) hcl rfl rfl rfl rfl (by kernel_rfl) (fun _ _ h => h) (fun done ρ W hat => ?_)
          have e28 : ρ (.tmp 28) = .pointer (some ⟨g, a, none⟩) := fIs_at (d := 28) (v := .pointer (some ⟨g, a, none⟩)) (hat.fact 12 (by kernel_rfl))
          have hC := hat.cls
          have c2 := hrow W (hC.2 (hat.notyet 24 (by kernel_rfl)))
          have hc := hat.con
          simp only [execOp, e28]
          go_simp
        · simp at ho; subst ho
          refine fo_det (st_l2Put w.heap.size g ws.length cw bq oq all.length cq bd od data.length cd bl ol lanes.length cl k a o d l zs) hcl rfl rfl rfl rfl (by kernel_rfl) (fun _ _ h => h) (fun done ρ W hat => ?_)
          have e2 : ρ (.tmp 2) = .slice (some ⟨bd, od, none⟩) data.length cd := hat.out 2 (by kernel_rfl)
          have hC := hat.cls
          have hc := hat.con
          simp only [execOp, e2]
          go_simp
        · simp at ho; subst ho
          refine fo_det (st_l2Put w.heap.size g ws.length cw bq oq all.length cq bd od data.length cd bl ol lanes.length cl k a o d l zs) hcl rfl rfl rfl rfl (by kernel_rfl) (fun _ _ h => h) (fun done ρ W hat => ?_)
          have e9 : ρ (.tmp 9) = .int .i64 (k : Int) := hat.out 9 (by kernel_rfl)
          have hC := hat.cls
          have hc := hat.con
          simp only [execOp, e9]
          go_simp
        · simp at ho; subst ho
          refine fo_det (st_l2Put w.heap.size g ws.length cw bq oq all.length cq bd od data.length cd bl ol lanes.length cl k a o d l zs) hcl rfl rfl rfl rfl (by kernel_rfl) (fun _ _ h => h) (fun done ρ W hat => ?_)
          have e30 : ρ (.tmp 30) = .slice (some ⟨bd, od, none⟩) data.length cd := fIs_at (d := 30) (v := .slice (some ⟨bd, od, none⟩) data.length cd) (hat.fact 14 (by kernel_rfl))
          have e31 : ρ (.tmp 31) = .int .i64 (k : Int) := fIs_at (d := 31) (v := .int .i64 (k : Int)) (hat.fact 15 (by kernel_rfl))
          have hC := hat.cls
          have hc := hat.con
          simp only [execOp, e30, e31]
          go_simp
        · simp at ho; subst ho
          refine fo_det (st_l2Put w.heap.size g ws.length cw bq oq all.length cq bd od data.length cd bl ol lanes.length cl k a o d l zs) hcl rfl rfl rfl rfl (by kernel_rfl) (fun _ _ h => h) (fun done ρ W hat => ?_)
          have e32 : ρ (.tmp 32) = .pointer (some ⟨bd, od + k, none⟩) := fIs_at (d := 32) (v := .pointer (some ⟨bd, od + k, none⟩)) (hat.fact 16 (by kernel_rfl))
          have hC := hat.cls
          have c3 := hkd W hC.1
          have hc := hat.con
          simp only [execOp, e32]
          go_simp
        · simp at ho; subst ho
          refine fo_det (st_l2Put w.heap.size g ws.length cw bq oq all.length cq bd od data.length cd bl ol lanes.length cl k a o d l zs) hcl rfl rfl rfl rfl (by kernel_rfl) (fun _ _ h => h) (fun done ρ W hat => ?_)
          have e3 : ρ (.tmp 3) = .slice (some ⟨bl, ol, none⟩) lanes.length cl := hat.out 3 (by kernel_rfl)
          have hC := hat.cls
          have hc := hat.con
          simp only [execOp, e3]
          go_simp
        · simp at ho; subst ho
          refine fo_det (st_l2Put w.heap.size g ws.length cw bq oq all.length cq bd od data.length cd bl ol lanes.length cl k a o d l zs) hcl rfl rfl rfl rfl (by kernel_rfl) (fun _ _ h => h) (fun done ρ W hat => ?_)
          have e9 : ρ (.tmp 9) = .int .i64 (k : Int) := hat.out 9 (by kernel_rfl)
          have hC := hat.cls
          have hc := hat.con
          simp only [execOp, e9]
          go_simp
        · simp at ho; subst ho
          refine fo_det (st_l2Put w.heap.size g ws.length cw bq oq all.length cq bd od data.length cd bl ol lanes.length cl k a o d l zs) hcl rfl rfl rfl rfl (by kernel_rfl) (fun _ _ h => h) (fun done ρ W hat => ?_)
          have e34 : ρ (.tmp 34) = .slice (some ⟨bl, ol, none⟩) lanes.length cl := fIs_at (d := 34) (v := .slice (some ⟨bl, ol, none⟩) lanes.length cl) (hat.fact 18 (by kernel_rfl))
          have e35 : ρ (.tmp 35) = .int .i64 (k : Int) := fIs_at (d := 35) (v := .int .i64 (k : Int)) (hat.fact 19 (by kernel_rfl))
          have hC := hat.cls
          have hc := hat.con
          simp only [execOp, e34, e35]
          go_simp
        · simp at ho; subst ho
          refine fo_det (st_l2Put w.heap.size g ws.length cw bq oq all.length cq bd od data.length cd bl ol lanes.length cl k a o d l zs) hcl rfl rfl rfl rfl (by kernel_rfl) (fun _ _ h => h) (fun done ρ W hat => ?_)
          have e36 : ρ (.tmp 36) = .pointer (some ⟨bl, ol + k, none⟩) := fIs_at (d := 36) (v := .pointer (some ⟨bl, ol + k, none⟩)) (hat.fact 20 (by kernel_rfl))
          have hC := hat.cls
          have c4 := hkl W hC.1
          have hc := hat.con
          simp only [execOp, e36]
          go_simp
        · simp at ho; subst ho
          refine fo_grow (st_l2Put w.heap.size g ws.length cw bq oq all.length cq bd od data.length cd bl ol lanes.length cl k a o d l zs) hcl rfl rfl (fun done ρ W hat => ?_)
          have e29 : ρ (.tmp 29) = .int .i64 o := fIs_at (d := 29) (v := .int .i64 o) (hat.fact 13 (by kernel_rfl))
          have e33 : ρ (.tmp 33) = .int .i64 d := fIs_at (d := 33) (v := .int .i64 d) (hat.fact 17 (by kernel_rfl))
          have e37 : ρ (.tmp 37) = .int .i64 l := fIs_at (d := 37) (v := .int .i64 l) (hat.fact 21 (by kernel_rfl))
          have hC := hat.cls
          have hf := hat.fn
          have hc := hat.con
          refine up_call 98 #[.int .i64 o, .int .i64 d, .int .i64 l] (by simp only [execOp]; go_simp) ?_
          refine (gr_same (spec_WrdPut o d l W)).mono ?_
          rintro e W1 ⟨rfl, hb⟩
          exact ⟨_, rfl, hCg _ _ _ hC hb, hb, fIs_mk (updV_same _ _ _), free_spec (by kernel_rfl) hat.lt⟩
        · simp at ho; subst ho
          refine fo_det (st_l2Put w.heap.size g ws.length cw bq oq all.length cq bd od data.length cd bl ol lanes.length cl k a o d l zs) hcl rfl rfl rfl rfl (by kernel_rfl) (fun _ _ h => h) (fun done ρ W hat => ?_)
          have e17 : ρ (.tmp 17) = .slice (some ⟨g, 0, none⟩) ws.length cw := fIs_at (d := 17) (v := .slice (some ⟨g, 0, none⟩) ws.length cw) (hat.fact 1 (by kernel_rfl))
          have e21 : ρ (.tmp 21) = .int .i64 (a : Int) := fIs_at (d := 21) (v := .int .i64 (a : Int)) (hat.fact 5 (by kernel_rfl))
          have hC := hat.cls
          have hc := hat.con
          simp only [execOp, e17, e21]
          go_simp
        · simp at ho; subst ho
          refine fo_rel (S := fun _ _ => True) (E := [24]) (any_l2Put w.heap.size g ws.length cw bq oq all.length cq bd od data.length cd bl ol lanes.length cl k a o d l zs) hcl rfl rfl (fun done ρ W hat => ?_)
          have e38 : ρ (.tmp 38) = .int .i64 (wrdPutZ o d l) := fIs_at (d := 38) (v := .int .i64 (wrdPutZ o d l)) (hat.fact 22 (by kernel_rfl))
          have e39 : ρ (.tmp 39) = .pointer (some ⟨g, a, none⟩) := fIs_at (d := 39) (v := .pointer (some ⟨g, a, none⟩)) (hat.fact 23 (by kernel_rfl))
          have hC := hat.cls
          have hO := hC.2 hat.new
          have c2 := hrow W hO
          have f2 := hO.free a
          refine up_skip (W.setCell ⟨g, a, none⟩ (.int .i64 (wrdPutZ o d l))) (by simp only [execOp]; go_simp) ?_
          refine ⟨⟨hC.1.trans (Kept.setCell (D := fun k => k = g) (p := ⟨g, a, none⟩) _ rfl _), fun h => absurd (show true = false from h) (by decide)⟩, trivial, ?_, fun j hj hcj => ?_⟩
          · show ORow _ _ _ _ _ _ _
            rw [← HZ.out]
            exact hO.set a hal _
          · have hj24 : j = 24 := ask_l2Put j (hat.lt j hj) hcj
            subst hj24; have := hat.new; rw [hj] at this; cases this
        · simp at ho
      case c0 => exact ⟨Kept.drew _ _, fun _ => hOr⟩
      case done =>
        intro f W hC hf hout
        have hnew : ORow 3 1 W g cw ws.length (zs.map (Value.int .i64)) := hf 24 (by decide)
        rw [HZS.out] at hnew
        simp only [fill]
        go_simp
        go_wp2
        go_roundw
        case rel => exact ⟨k + 1, by omega, by go_num, hnew, HKW.out W hC.1, HXW.out W hC.1⟩
        case measure => simp [intOf]; omega
    · have hke : k = all.length := by omega
      subst hke
      have hk1 : ¬ ((all.length : Nat) : Int) < ((all.length : Nat) : Int) := by omega
      obtain ⟨hB, hR⟩ := HX.out
      have hws : w.heap.size + 2 ≤ wr.heap.size := by have := heap_lt hR; omega
      have c0 : wr.cell? ⟨w.heap.size, 0, none⟩ = some (.slice (some ⟨g, 0, none⟩) ws.length cw) := heap_cell hB 0
      have r0 : wr.cell? ⟨w.heap.size + 1, 0, none⟩ = some (.slice none 0 0) := heap_cell hR 0
      have f0 := heap_free hR 0
      have hR2 := heap_set hR 0 (.slice (some ⟨g, 0, none⟩) ws.length cw)
      have r1 : (wr.setCell ⟨w.heap.size + 1, 0, none⟩ (.slice (some ⟨g, 0, none⟩) ws.length cw)).cell? ⟨w.heap.size + 1, 0, none⟩ = some (.slice (some ⟨g, 0, none⟩) ws.length cw) := heap_cell hR2 0
      have HO2 := Hid.intro (HO.out.of (heap_set_ne (b := w.heap.size + 1) (i := 0) (v := .slice (some ⟨g, 0, none⟩) ws.length cw) (by omega)))
      clear hR2 hR hB HX
      go_wp2
      refine bodyPost_ret (v := .agg #[.slice (some ⟨g, 0, none⟩) ws.length cw]) (by simp [results, Try.results87, go_sem, r1]) rfl ⟨rfl, HO2.out, ?_⟩
      exact ⟨HK.out.os, HK.out.tape, HK.out.output, by have := HK.out.size; simp; omega, fun i hi hne => (heap_set_ne (b := w.heap.size + 1) (by omega)).trans (HK.out.block i hi hne)⟩

end Go.Proofs.Ytlifkfemdknndaa
