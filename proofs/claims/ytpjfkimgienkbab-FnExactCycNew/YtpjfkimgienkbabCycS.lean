/-
  CycNew of the model.
-/
import Derived.Test.YtpjfkimgienkbabAtmN
import Derived.Test.YtpjfkimgienkbabKndA
import Derived.Test.YtpjfkimgienkbabKCycState
namespace Go.Proofs.Ytpjfkimgienkbab
open Go.RowKit
set_option linter.unusedSimpArgs false
set_option linter.unusedVariables false

/-- one who asks, and one who answers, at the beginning -/
def port0 : Int × Lst Int × Lst (Int × Int × Int) × Int := (0, ⟨none, 0, []⟩, ⟨none, 0, []⟩, 3)
def slave0 : Lst (Int × Int × Int) × Lst (Int × Int × (Int × Int × Lst Int)) × Int := (⟨none, 0, []⟩, ⟨none, 0, []⟩, 2)
theorem port0_cells : yCycPort.cells port0 = [.int .i64 0, .slice none 0 0, .slice none 0 0, .int .i64 3] := rfl
theorem slave0_cells : yCycSlave.cells slave0 = [.slice none 0 0, .slice none 0 0, .int .i64 2] := rfl
def ports0 (k : Nat) : List (Int × Lst Int × Lst (Int × Int × Int) × Int) := List.replicate k port0
def slaves0 (k : Nat) : List (Lst (Int × Int × Int) × Lst (Int × Int × (Int × Int × Lst Int)) × Int) := List.replicate k slave0
theorem ports0_snoc (k : Nat) : ports0 k ++ [port0] = ports0 (k + 1) := by simp [ports0, List.replicate_succ']
theorem slaves0_snoc (k : Nat) : slaves0 k ++ [slave0] = slaves0 (k + 1) := by simp [slaves0, List.replicate_succ']

/-- a bus at its beginning: its rows -/
structure CycB (w : World) (g h ch gp cp gs cs : Nat) : Prop where
  mem : ORow 3 1 w g 64 64 ((noughts 64).map (Value.int .i64))
  hol : ORow 3 1 w h ch 6 ((freeH 6).map (Value.int .i64))
  hol1 : 6 ≤ ch
  hol2 : ch ≤ 9223372036854775807
  prt : ORow 46 4 w gp cp 3 ((ports0 3).flatMap yCycPort.cells)
  prt2 : cp ≤ maxLen
  slv : ORow 48 3 w gs cs 4 ((slaves0 4).flatMap yCycSlave.cells)
  slv2 : cs ≤ maxLen
  ne : g ≠ h
/-- a bus in the making -/
structure CycM (M R S : Nat) (w wr : World) (g h ch : Nat) (v1 v2 : Value) : Prop where
  mem : ORow 3 1 wr g 64 64 ((noughts 64).map (Value.int .i64))
  hol : ORow 3 1 wr h ch 6 ((freeH 6).map (Value.int .i64))
  R0 : wr.heap[R]? = some (.cells #[.slice none 0 0, .slice none 0 0, .slice none 0 0, .slice none 0 0, .slice none 0 0] 31 (0, 0))
  S0 : wr.heap[S]? = some (.cells #[.slice (some ⟨g, 0, none⟩) 64 64, .slice (some ⟨h, 0, none⟩) 6 ch, v1, v2, .slice none 0 0] 31 (0, 0))
  lt : R < S ∧ g < S ∧ h < S ∧ M ≤ R ∧ S < wr.heap.size
  bel : Below M w wr
theorem CycM.put1 {M R S : Nat} {w wr w2 : World} {g h ch : Nat} {v1 v2 v : Value} (H : CycM M R S w wr g h ch v1 v2) (hb : ∀ j, j ≤ S → w2.heap[j]? = wr.heap[j]?) (hs : wr.heap.size ≤ w2.heap.size) (h1 : w2.os = wr.os) (h2 : w2.tape = wr.tape) (h3 : w2.output = wr.output) : CycM M R S w (w2.setCell ⟨S, 2, none⟩ v) g h ch v v2 := by
  obtain ⟨a1, a2, a3, a4, ⟨a5, a6, a7, a8, a9⟩, a10⟩ := H
  have hS := (hb S (Nat.le_refl _)).trans a4
  have hB : Below M w w2 := a10.trans ⟨h1, h2, h3, hs, fun j hj => hb j (by omega)⟩
  refine ⟨a1.of ((heap_set_ne (by omega)).trans (hb g (by omega))), a2.of ((heap_set_ne (by omega)).trans (hb h (by omega))), (heap_set_ne (by omega)).trans ((hb R (by omega)).trans a3), (heap_set hS 2 v).trans rfl, ⟨a5, a6, a7, a8, ?_⟩, hB.setCell (p := ⟨S, 2, none⟩) (by show M ≤ S; omega) _⟩
  have := heap_lt (heap_set hS 2 v)
  exact this
theorem CycM.put2 {M R S : Nat} {w wr w2 : World} {g h ch : Nat} {v1 v2 v : Value} (H : CycM M R S w wr g h ch v1 v2) (hb : ∀ j, j ≤ S → w2.heap[j]? = wr.heap[j]?) (hs : wr.heap.size ≤ w2.heap.size) (h1 : w2.os = wr.os) (h2 : w2.tape = wr.tape) (h3 : w2.output = wr.output) : CycM M R S w (w2.setCell ⟨S, 3, none⟩ v) g h ch v1 v := by
  obtain ⟨a1, a2, a3, a4, ⟨a5, a6, a7, a8, a9⟩, a10⟩ := H
  have hS := (hb S (Nat.le_refl _)).trans a4
  have hB : Below M w w2 := a10.trans ⟨h1, h2, h3, hs, fun j hj => hb j (by omega)⟩
  refine ⟨a1.of ((heap_set_ne (by omega)).trans (hb g (by omega))), a2.of ((heap_set_ne (by omega)).trans (hb h (by omega))), (heap_set_ne (by omega)).trans ((hb R (by omega)).trans a3), (heap_set hS 3 v).trans rfl, ⟨a5, a6, a7, a8, ?_⟩, hB.setCell (p := ⟨S, 3, none⟩) (by show M ≤ S; omega) _⟩
  have := heap_lt (heap_set hS 3 v)
  exact this

set_option maxRecDepth 100000 in
set_option maxHeartbeats 4000000 in
theorem spec_CycNewB (w : World) : Calls Try.prog 5 #[] w fun e w' => ∃ g h ch gp cp gs cs, e = .returned (.agg #[.slice (some ⟨g, 0, none⟩) 64 64, .slice (some ⟨h, 0, none⟩) 6 ch, .slice (some ⟨gp, 0, none⟩) 3 cp, .slice (some ⟨gs, 0, none⟩) 4 cs, .slice none 0 0]) ∧ CycB w' g h ch gp cp gs cs ∧ w.heap.size ≤ g ∧ w.heap.size ≤ h ∧ w.heap.size ≤ gp ∧ w.heap.size ≤ gs ∧ Below w.heap.size w w' := by
  obtain ⟨ip, hip, hpz0, hpz1, hpz2⟩ := info_parts Try.infoCycPortS
  have HIP := Hid.intro (And.intro hip (And.intro hpz0 (And.intro hpz1 hpz2)))
  obtain ⟨is, his, hsz0, hsz1, hsz2⟩ := info_parts Try.infoCycSlaveS
  have HIS := Hid.intro (And.intro his (And.intro hsz0 (And.intro hsz1 hsz2)))
  clear hip hpz0 hpz1 hpz2 his hsz0 hsz1 hsz2
  have hbl : ∀ o, Below w.heap.size w (w.alloc o) := fun o => (Below.refl _ w).alloc (Nat.le_refl _) o
  go_enter Try.func5, Try.ntmps5
  go_wp2_with fail
  refine (spec_AtmNew _).mono ?_
  rintro e w1 ⟨g, h, ch, rfl, og, oh, hc1, hc2, hg, hh, hne, hb1⟩
  have hs1 := hb1.size
  simp at hs1 hg hh
  have lg := og.lt
  have lh := oh.lt
  have hR1 : w1.heap[w.heap.size]? = some (.cells #[.slice none 0 0, .slice none 0 0, .slice none 0 0, .slice none 0 0, .slice none 0 0] 31 (0, 0)) := (hb1.block w.heap.size (by simp)).trans (nw_k _ rfl)
  have hb1' := (hbl _).trans (hb1.mono (hbl _).size)
  clear hb1 hbl
  have hx := below_nw w1 (.cells #[.slice (some ⟨g, 0, none⟩) 64 64, .slice (some ⟨h, 0, none⟩) 6 ch, .slice none 0 0, .slice none 0 0, .slice none 0 0] 31)
  have HM0 : Hid (CycM w.heap.size w.heap.size w1.heap.size w (w1.alloc (.cells #[.slice (some ⟨g, 0, none⟩) 64 64, .slice (some ⟨h, 0, none⟩) 6 ch, .slice none 0 0, .slice none 0 0, .slice none 0 0] 31)) g h ch (.slice none 0 0) (.slice none 0 0)) := Hid.intro ⟨og.of (hx.block _ lg), oh.of (hx.block _ lh), (hx.block _ (by omega)).trans hR1, nw_k _ rfl, ⟨by omega, lg, lh, Nat.le_refl _, by simp⟩, hb1'.trans (hx.mono hb1'.size)⟩
  have HG := Hid.intro (And.intro hc1 (And.intro hc2 (And.intro hne (And.intro (show w.heap.size < g by omega) (show w.heap.size < h by omega)))))
  obtain ⟨S, hS⟩ : ∃ S, S = w1.heap.size := ⟨_, rfl⟩
  have hSw : w.heap.size < S := by omega
  clear og oh hR1 hb1' hx lg lh hc1 hc2 hne hg hh
  go_wp2_with fail
  go_loopw [2] (fun i wr => ∃ (k c : Nat) (p : Option Addr), k ≤ 3 ∧ i = .int .i64 k ∧ Hid (CycM w.heap.size w.heap.size w1.heap.size w wr g h ch (.slice p k c) (.slice none 0 0)) ∧ Hid (RowN 46 4 wr p c k ((ports0 k).flatMap yCycPort.cells)) ∧ (∀ x, p = some ⟨x, 0, none⟩ → w1.heap.size < x)) (fun i _ => 3 - (intOf i).toNat)
  case atStart => exact ⟨0, 0, none, by omega, rfl, HM0, Hid.intro (.inl ⟨rfl, rfl, rfl, rfl⟩), fun x h => by cases h⟩
  case round =>
    clear HM0
    obtain ⟨k, c, p, hk, rfl, HM, HW, hp⟩ := hrel
    have hS0 := HM.out.S0
    have hlt := HM.out.lt
    have cS1 : wr.cell? ⟨w1.heap.size, 2, none⟩ = some (.slice p k c) := heap_cell hS0 2
    by_cases hlt3 : k < 3
    · have hk1 : (k : Int) < 3 := by omega
      have gr : Below wr.heap.size wr (wr.alloc (.cells #[.int .i64 0, .slice none 0 0, .slice none 0 0, .int .i64 3] 46)) := below_nw _ _
      have HGR := Hid.intro gr
      have HRW : Hid (RowN 46 4 (wr.alloc (.cells #[.int .i64 0, .slice none 0 0, .slice none 0 0, .int .i64 3] 46)) p c k ((ports0 k).flatMap yCycPort.cells)) := Hid.intro (HW.out.of (fun x e hx => gr.block x hx))
      have HY : Hid (∀ (j : Nat) (v : Value), (yCycPort.cells port0)[j]? = some v → (wr.alloc (.cells #[.int .i64 0, .slice none 0 0, .slice none 0 0, .int .i64 3] 46)).cell? ⟨wr.heap.size, j, none⟩ = some v) := Hid.intro (fun j v hv => by
        have hb : (wr.alloc (.cells #[.int .i64 0, .slice none 0 0, .slice none 0 0, .int .i64 3] 46)).heap[wr.heap.size]? = some (.cells #[.int .i64 0, .slice none 0 0, .slice none 0 0, .int .i64 3] 46 (0, 0)) := nw_k _ rfl
        rw [heap_cell hb j]
        rw [port0_cells] at hv
        simpa using hv)
      clear gr HW
      go_wp2_with (at_builtin; refine wpList_appK (z := .agg #[.int .i64 0, .slice none 0 0, .slice none 0 0, .int .i64 0]) yCycPort_law Try.underlying27 HIP.out.1 HIP.out.2.1 HIP.out.2.2.1 HIP.out.2.2.2 rfl (by decide) (ports0 k) port0 rfl rfl rfl (by simp [ports0]) HRW.out rfl HY.out (by omega) ?_; intro g' cap' w2 hO hcap hor hkp; have hblk : ∀ j, j ≤ w1.heap.size → w2.heap[j]? = wr.heap[j]? := (fun j hj => (hkp.block j (by have := HGR.out.size; omega) (fun e => by have := hp _ e; omega)).trans (HGR.out.block j (by omega))); have hS2 := (hblk _ (Nat.le_refl _)).trans hS0; have cS2 := heap_cell hS2 2; have fS2 := heap_free hS2 2)
      have HM2 : Hid (CycM w.heap.size w.heap.size w1.heap.size w (w2.setCell ⟨w1.heap.size, 2, none⟩ (.slice (some ⟨g', 0, none⟩) (k + 1) cap')) g h ch (.slice (some ⟨g', 0, none⟩) (k + 1) cap') (.slice none 0 0)) := Hid.intro (HM.out.put1 hblk (Nat.le_trans HGR.out.size hkp.size) (hkp.os.trans HGR.out.os) (hkp.tape.trans HGR.out.tape) (hkp.output.trans HGR.out.output))
      have hg' : w1.heap.size < g' := by
        rcases hor with h | h
        · exact hp g' h
        · have := HGR.out.size
          omega
      have HW2 : Hid (RowN 46 4 (w2.setCell ⟨w1.heap.size, 2, none⟩ (.slice (some ⟨g', 0, none⟩) (k + 1) cap')) (some ⟨g', 0, none⟩) cap' (k + 1) ((ports0 (k + 1)).flatMap yCycPort.cells)) := Hid.intro (.inr ⟨g', rfl, by rw [← ports0_snoc]; exact hO.of (heap_set_ne (by omega)), hcap⟩)
      clear HM HRW HY HGR hO hkp hor hblk hS2 cS2 hS0 cS1
      go_roundw
      case rel => exact ⟨k + 1, cap', some ⟨g', 0, none⟩, by omega, by go_num, HM2, HW2, fun x e => by cases e; exact hg'⟩
      case measure => simp [intOf]; omega
    · have hk' : k = 3 := by omega
      have hkI : (k : Int) = 3 := by omega
      rw [hkI]
      clear hkI
      subst hk'
      rcases HW.out with ⟨_, _, h0, _⟩ | ⟨gp, rfl, hOp, hcp⟩
      · omega
      have hgp := hp gp rfl
      have HP := Hid.intro hOp
      clear HW hOp hp hk hlt3
      go_wp2
      go_loopw [3] (fun i wr => ∃ (k c2 : Nat) (p : Option Addr), k ≤ 4 ∧ i = .int .i64 k ∧ Hid (CycM w.heap.size w.heap.size w1.heap.size w wr g h ch (.slice (some ⟨gp, 0, none⟩) 3 c) (.slice p k c2)) ∧ Hid (ORow 46 4 wr gp c 3 ((ports0 3).flatMap yCycPort.cells)) ∧ Hid (RowN 48 3 wr p c2 k ((slaves0 k).flatMap yCycSlave.cells)) ∧ (∀ x, p = some ⟨x, 0, none⟩ → w1.heap.size < x)) (fun i _ => 4 - (intOf i).toNat)
      case atStart => exact ⟨0, 0, none, by omega, rfl, HM, HP, Hid.intro (.inl ⟨rfl, rfl, rfl, rfl⟩), fun x h => by cases h⟩
      case round =>
        clear HM HP hS0 hlt cS1
        obtain ⟨k, c2, p, hk, rfl, HM, HP, HW, hp⟩ := hrel
        have hS0 := HM.out.S0
        have hlt := HM.out.lt
        have cS1 : wr.cell? ⟨w1.heap.size, 3, none⟩ = some (.slice p k c2) := heap_cell hS0 3
        by_cases hlt3 : k < 4
        · have hk1 : (k : Int) ≤ 3 := by omega
          have gr : Below wr.heap.size wr (wr.alloc (.cells #[.slice none 0 0, .slice none 0 0, .int .i64 2] 48)) := below_nw _ _
          have HGR := Hid.intro gr
          have HRW : Hid (RowN 48 3 (wr.alloc (.cells #[.slice none 0 0, .slice none 0 0, .int .i64 2] 48)) p c2 k ((slaves0 k).flatMap yCycSlave.cells)) := Hid.intro (HW.out.of (fun x e hx => gr.block x hx))
          have HPL := Hid.intro HP.out.lt
          have HY : Hid (∀ (j : Nat) (v : Value), (yCycSlave.cells slave0)[j]? = some v → (wr.alloc (.cells #[.slice none 0 0, .slice none 0 0, .int .i64 2] 48)).cell? ⟨wr.heap.size, j, none⟩ = some v) := Hid.intro (fun j v hv => by
            have hb : (wr.alloc (.cells #[.slice none 0 0, .slice none 0 0, .int .i64 2] 48)).heap[wr.heap.size]? = some (.cells #[.slice none 0 0, .slice none 0 0, .int .i64 2] 48 (0, 0)) := nw_k _ rfl
            rw [heap_cell hb j]
            rw [slave0_cells] at hv
            simpa using hv)
          have HNE : Hid (p ≠ some ⟨gp, 0, none⟩) := Hid.intro (fun e => by
            rcases HW.out with ⟨h0, _⟩ | ⟨g3, e3, hO3, _⟩
            · rw [h0] at e; cases e
            · rw [e3] at e; cases e
              obtain ⟨cur, h1, _⟩ := hO3
              obtain ⟨cur', h2, _⟩ := HP.out
              rw [h2] at h1
              injection h1 with h1
              injection h1 with _ h1
              exact absurd h1 (by decide))
          clear gr HW
          go_wp2_with (at_builtin; refine wpList_appK (z := .agg #[.slice none 0 0, .slice none 0 0, .int .i64 0]) yCycSlave_law Try.underlying28 HIS.out.1 HIS.out.2.1 HIS.out.2.2.1 HIS.out.2.2.2 rfl (by decide) (slaves0 k) slave0 rfl rfl rfl (by simp [slaves0]) HRW.out rfl HY.out (by omega) ?_; intro g' cap' w2 hO hcap hor hkp; have hblk : ∀ j, j ≤ w1.heap.size → w2.heap[j]? = wr.heap[j]? := (fun j hj => (hkp.block j (by have := HGR.out.size; omega) (fun e => by have := hp _ e; omega)).trans (HGR.out.block j (by omega))); have hS2 := (hblk _ (Nat.le_refl _)).trans hS0; have cS2 := heap_cell hS2 3; have fS2 := heap_free hS2 3)
          have HM2 : Hid (CycM w.heap.size w.heap.size w1.heap.size w (w2.setCell ⟨w1.heap.size, 3, none⟩ (.slice (some ⟨g', 0, none⟩) (k + 1) cap')) g h ch (.slice (some ⟨gp, 0, none⟩) 3 c) (.slice (some ⟨g', 0, none⟩) (k + 1) cap')) := Hid.intro (HM.out.put2 hblk (Nat.le_trans HGR.out.size hkp.size) (hkp.os.trans HGR.out.os) (hkp.tape.trans HGR.out.tape) (hkp.output.trans HGR.out.output))
          have HP2 : Hid (ORow 46 4 (w2.setCell ⟨w1.heap.size, 3, none⟩ (.slice (some ⟨g', 0, none⟩) (k + 1) cap')) gp c 3 ((ports0 3).flatMap yCycPort.cells)) := Hid.intro (HP.out.of ((heap_set_ne (by omega)).trans ((hkp.block gp (by have := HGR.out.size; have := HPL.out; omega) (fun e => HNE.out e)).trans (HGR.out.block gp HPL.out))))
          have hg' : w1.heap.size < g' := by
            rcases hor with h | h
            · exact hp g' h
            · have := HGR.out.size
              omega
          have HW2 : Hid (RowN 48 3 (w2.setCell ⟨w1.heap.size, 3, none⟩ (.slice (some ⟨g', 0, none⟩) (k + 1) cap')) (some ⟨g', 0, none⟩) cap' (k + 1) ((slaves0 (k + 1)).flatMap yCycSlave.cells)) := Hid.intro (.inr ⟨g', rfl, by rw [← slaves0_snoc]; exact hO.of (heap_set_ne (by omega)), hcap⟩)
          clear HM HP HPL HNE HRW HY HGR hO hkp hor hblk hS2 cS2 hS0 cS1
          go_roundw
          case rel => exact ⟨k + 1, cap', some ⟨g', 0, none⟩, by omega, by go_num, HM2, HP2, HW2, fun x e => by cases e; exact hg'⟩
          case measure => simp [intOf]; omega
        · have hk' : k = 4 := by omega
          subst hk'
          rcases HW.out with ⟨_, _, h0, _⟩ | ⟨gs, rfl, hOs, hcs⟩
          · omega
          have hgs := hp gs rfl
          have c0 : wr.cell? ⟨w1.heap.size, 0, none⟩ = some (.slice (some ⟨g, 0, none⟩) 64 64) := heap_cell hS0 0
          have c1 : wr.cell? ⟨w1.heap.size, 1, none⟩ = some (.slice (some ⟨h, 0, none⟩) 6 ch) := heap_cell hS0 1
          have c2' : wr.cell? ⟨w1.heap.size, 2, none⟩ = some (.slice (some ⟨gp, 0, none⟩) 3 c) := heap_cell hS0 2
          have c4 : wr.cell? ⟨w1.heap.size, 4, none⟩ = some (.slice none 0 0) := heap_cell hS0 4
          have hR := HM.out.R0
          have r0 : wr.cell? ⟨w.heap.size, 0, none⟩ = some (.slice none 0 0) := heap_cell hR 0
          have r1 : wr.cell? ⟨w.heap.size, 1, none⟩ = some (.slice none 0 0) := heap_cell hR 1
          have r2 : wr.cell? ⟨w.heap.size, 2, none⟩ = some (.slice none 0 0) := heap_cell hR 2
          have r3 : wr.cell? ⟨w.heap.size, 3, none⟩ = some (.slice none 0 0) := heap_cell hR 3
          have r4 : wr.cell? ⟨w.heap.size, 4, none⟩ = some (.slice none 0 0) := heap_cell hR 4
          have f0 := heap_free hR 0
          have f1 := heap_free hR 1
          have f2 := heap_free hR 2
          have f3 := heap_free hR 3
          have f4 := heap_free hR 4
          have hR2 := heap_set (heap_set (heap_set (heap_set (heap_set hR 0 (.slice (some ⟨g, 0, none⟩) 64 64)) 1 (.slice (some ⟨h, 0, none⟩) 6 ch)) 2 (.slice (some ⟨gp, 0, none⟩) 3 c)) 3 (.slice (some ⟨gs, 0, none⟩) 4 c2)) 4 (.slice none 0 0)
          have s0 := heap_cell hR2 0
          have s1 := heap_cell hR2 1
          have s2 := heap_cell hR2 2
          have s3 := heap_cell hR2 3
          have s4 := heap_cell hR2 4
          simp at s0 s1 s2 s3 s4
          have HOS := Hid.intro hOs
          clear hR2 hR hS0 hOs HW
          go_wp2
          refine bodyPost_ret (v := .agg #[.slice (some ⟨g, 0, none⟩) 64 64, .slice (some ⟨h, 0, none⟩) 6 ch, .slice (some ⟨gp, 0, none⟩) 3 c, .slice (some ⟨gs, 0, none⟩) 4 c2, .slice none 0 0]) (by simp [results, Try.results5, go_sem, s0, s1, s2, s3, s4]) rfl ⟨g, h, ch, gp, c, gs, c2, rfl, ?_, by have := HG.out.2.2.2.1; omega, by have := HG.out.2.2.2.2; omega, by omega, by omega, ?_⟩
          · have hk : ∀ b, w.heap.size ≠ b → ((((((wr.setCell ⟨w.heap.size, 0, none⟩ (.slice (some ⟨g, 0, none⟩) 64 64)).setCell ⟨w.heap.size, 1, none⟩ (.slice (some ⟨h, 0, none⟩) 6 ch)).setCell ⟨w.heap.size, 2, none⟩ (.slice (some ⟨gp, 0, none⟩) 3 c)).setCell ⟨w.heap.size, 3, none⟩ (.slice (some ⟨gs, 0, none⟩) 4 c2)).setCell ⟨w.heap.size, 4, none⟩ (.slice none 0 0)).heap[b]?) = wr.heap[b]? := fun b hb => (heap_set_ne (by omega)).trans ((heap_set_ne (by omega)).trans ((heap_set_ne (by omega)).trans ((heap_set_ne (by omega)).trans (heap_set_ne (by omega)))))
            have := HG.out
            exact ⟨HM.out.mem.of (hk g (by omega)), HM.out.hol.of (hk h (by omega)), HG.out.1, HG.out.2.1, HP.out.of (hk gp (by omega)), hcp, HOS.out.of (hk gs (by omega)), hcs, HG.out.2.2.1⟩
          · exact ((((HM.out.bel.setCell (p := ⟨w.heap.size, 0, none⟩) (Nat.le_refl _) _).setCell (p := ⟨w.heap.size, 1, none⟩) (Nat.le_refl _) _).setCell (p := ⟨w.heap.size, 2, none⟩) (Nat.le_refl _) _).setCell (p := ⟨w.heap.size, 3, none⟩) (Nat.le_refl _) _).setCell (p := ⟨w.heap.size, 4, none⟩) (Nat.le_refl _) _

end Go.Proofs.Ytpjfkimgienkbab
