/-
  BusApart of the model.
-/
import Derived.Test.YtlifkfemdknndaaBusK
import Derived.Test.YtlifkfemdknndaaOpsXM
/-
  BusApart, as a Lean function.
-/
namespace Go.Proofs.Ytlifkfemdknndaa
open Go.RowKit
set_option linter.unusedSimpArgs false
set_option linter.unusedVariables false

theorem all_step {α : Type} {p : α → Bool} {l : List α} {k : Nat} (hk : k < l.length) (h : (l.take k).all p = true) (h' : p l[k] = true) : (l.take (k + 1)).all p = true := by
  rw [List.take_succ_eq_append_getElem hk, List.all_append, h]; simp [h']
theorem all_hit {α : Type} {p : α → Bool} {l : List α} {k : Nat} (hk : k < l.length) (h' : p l[k] = false) : l.all p = false := List.all_eq_false.2 ⟨l[k], List.getElem_mem hk, by simp [h']⟩
theorem all_end {α : Type} {p : α → Bool} {l : List α} {k : Nat} (hk : l.length ≤ k) (h : (l.take k).all p = true) : l.all p = true := by rwa [List.take_of_length_le hk] at h

/-- the stores of which the k-th asks -/
def slvs (z : ((List (Int × Int × Int × Bool)) × (List Int) × (List (List (Int × Int × Int × Int × Bool × (List Int) × (List Int)))))) (k : Nat) : List Int := ((z.2.2.getD k []).map reqOf).map (reqSlaveZ (z.1.map rngOf))
def apartK (z : ((List (Int × Int × Int × Bool)) × (List Int) × (List (List (Int × Int × Int × Int × Bool × (List Int) × (List Int)))))) (n : Nat) (k : Nat) : Bool := k == n || (slvs z k).all (fun x => (slvs z n).all (fun y => !(x == y)))
def apartB (z : ((List (Int × Int × Int × Bool)) × (List Int) × (List (List (Int × Int × Int × Int × Bool × (List Int) × (List Int)))))) (n : Nat) : Bool := [0, 1, 2].all (apartK z n)
def busApartP (z : ((List (Int × Int × Int × Bool)) × (List Int) × (List (List (Int × Int × Int × Int × Bool × (List Int) × (List Int)))))) (who : Int) : Bool := busOkP z && (inB who 0 2 && apartB z who.toNat)

/-- what one of a bus that is ok asks -/
theorem progs_three {z : ((List (Int × Int × Int × Bool)) × (List Int) × (List (List (Int × Int × Int × Int × Bool × (List Int) × (List Int)))))} (h : busOkP z = true) : z.2.2.length = 3 := by
  unfold busOkP at h
  simp only [Bool.and_eq_true, decide_eq_true_eq] at h
  exact h.2.2.2.1
theorem slv_kinds {F : Nat} (hF : ∀ (a : Option Addr) (cap : Nat) (ms : List Rng) (r : Req) (pd pl : Option Addr) (cd cl : Nat) (w : World), RowOf w a ms → ms.length ≤ cap → cap ≤ 9223372036854775807 → ReqAt w r pd cd pl cl → Calls Try.prog F #[.slice a ms.length cap, reqV r pd cd pl cl] w fun e w' => e = .returned (.int .i64 (reqSlaveZ ms r)) ∧ Below w.heap.size w w')
    (m : (Lst (Int × Int × Int × Bool))) (q : (Int × Int × Int × Int × Bool × (Lst Int) × (Lst Int))) (W : World) (h1 : yMapRangeS.rd W m) (h2 : yReqReq.rd W q) :
    Calls Try.prog F #[.slice m.p m.l.length m.c, .agg #[.int .i64 q.1, .int .i64 q.2.1, .int .i64 q.2.2.1, .int .i64 q.2.2.2.1, .bool q.2.2.2.2.1, .slice q.2.2.2.2.2.1.p q.2.2.2.2.2.1.l.length q.2.2.2.2.2.1.c, .slice q.2.2.2.2.2.2.p q.2.2.2.2.2.2.l.length q.2.2.2.2.2.2.c]] W fun e w' => e = .returned (.int .i64 (reqSlaveZ ((yMapRangeS.pl m).map rngOf) (reqOf (yReqReq.pl q)))) ∧ Below W.heap.size W w' := by
  have h := hF m.p m.c (m.l.map rngOf) (reqOf (yReqReq.pl q)) q.2.2.2.2.2.1.p q.2.2.2.2.2.2.p q.2.2.2.2.2.1.c q.2.2.2.2.2.2.c W (rngs_rd h1) (by simpa using h1.1) h1.2.1 (by
    obtain ⟨_, _, _, _, _, g1, g2⟩ := h2
    obtain ⟨a1, a2, a3⟩ := yI_rd.1 g1
    obtain ⟨b1, b2, b3⟩ := yI_rd.1 g2
    have e : yReqReq.pl q = (q.1, q.2.1, q.2.2.1, q.2.2.2.1, q.2.2.2.2.1, yI.pl q.2.2.2.2.2.1, yI.pl q.2.2.2.2.2.2) := rfl
    rw [e, yI_pl, yI_pl]
    exact ⟨a3, b3, a1, a2, b1, b2⟩)
  rw [rngs_pl]
  have e : yReqReq.pl q = (q.1, q.2.1, q.2.2.1, q.2.2.2.1, q.2.2.2.2.1, yI.pl q.2.2.2.2.2.1, yI.pl q.2.2.2.2.2.2) := rfl
  rw [e, yI_pl, yI_pl] at h ⊢
  simp only [List.length_map] at h
  exact h

end Go.Proofs.Ytlifkfemdknndaa

namespace Go.Proofs.Ytlifkfemdknndaa
open Go.RowKit
set_option linter.unusedSimpArgs false
set_option linter.unusedVariables false

/-- a row of rows: where the k-th lies -/
theorem row_of {w : World} {p : Option Addr} {cap : Nat} {l : List (Lst (Int × Int × Int × Int × Bool × (Lst Int) × (Lst Int)))} (h : yReqReqSS.rd w ⟨p, cap, l⟩) {bs os : Nat} (hp : p = some ⟨bs, os, none⟩) {k : Nat} (hk : k < l.length) : bs < w.heap.size ∧ w.cell? ⟨bs, os + k, none⟩ = some (.slice l[k].p l[k].l.length l[k].c) ∧ yReqReqS.rd w l[k] := by
  obtain ⟨b, off, e, hb, hc, hr⟩ := progs_at h hk
  rw [hp] at e
  cases e
  exact ⟨hb, hc, hr⟩
theorem reqs_at {w : World} {a : (Lst (Int × Int × Int × Int × Bool × (Lst Int) × (Lst Int)))} (h : yReqReqS.rd w a) {j : Nat} (hj : j < a.l.length) : ∃ b off, a.p = some ⟨b, off, none⟩ ∧ b < w.heap.size ∧ (∀ i v, (yReqReq.cells a.l[j])[i]? = some v → w.cell? ⟨b, off + j * 7 + i, none⟩ = some v) ∧ yReqReq.rd w a.l[j] := by
  obtain ⟨_, _, h3, h4⟩ := h
  rcases h3 with h3 | ⟨b, off, e, hlt, hc⟩
  · rw [h3] at hj; simp at hj
  · exact ⟨b, off, e, hlt, fun i v hv => hc j hj i v hv, h4 _ (List.getElem_mem hj)⟩

theorem req_of {w : World} {p : Option Addr} {cap : Nat} {l : List (Int × Int × Int × Int × Bool × (Lst Int) × (Lst Int))} (h : yReqReqS.rd w ⟨p, cap, l⟩) {b off : Nat} (hp : p = some ⟨b, off, none⟩) {j : Nat} (hj : j < l.length) : b < w.heap.size ∧ (∀ i v, (yReqReq.cells l[j])[i]? = some v → w.cell? ⟨b, off + j * 7 + i, none⟩ = some v) ∧ yReqReq.rd w l[j] := by
  obtain ⟨b', off', e, hb, hc, hr⟩ := reqs_at h hj
  rw [hp] at e
  cases e
  exact ⟨hb, hc, hr⟩

set_option maxRecDepth 100000 in
set_option maxHeartbeats 8000000 in
theorem spec_BusApart (c : ((Lst (Int × Int × Int × Bool)) × (Lst Int) × (Lst (Lst (Int × Int × Int × Int × Bool × (Lst Int) × (Lst Int)))))) (who : Int) (w : World) (h : yBusCfg.rd w c) :
    Calls Try.prog 17 #[yBusCfg.val c, .int .i64 who] w fun e w' => e = .returned (.bool (busApartP (yBusCfg.pl c) who)) ∧ Below w.heap.size w w' := by
  obtain ⟨m, la, ps⟩ := c
  have hbl : ∀ o, Below w.heap.size w (w.alloc o) := fun o => (Below.refl _ w).alloc (Nat.le_refl _) o
  have HR := Hid.intro h
  obtain ⟨z, hz⟩ : ∃ z, z = yBusCfg.pl (m, la, ps) := ⟨_, rfl⟩
  have HBO : Hid (∀ W, Below w.heap.size w W → Calls Try.prog 9 #[.agg #[.slice m.p m.l.length m.c, .slice la.p la.l.length la.c, .slice ps.p ps.l.length ps.c]] W fun e w' => e = .returned (.bool (busOkP z)) ∧ Below W.heap.size W w') := Hid.intro (fun W hW => by rw [hz]; exact spec_BusOk (m, la, ps) W (yBusCfg_law.rd_blw h hW))
  have HZ := Hid.intro hz
  rw [← hz]
  clear h hz
  show Calls Try.prog 17 #[.agg #[.slice m.p m.l.length m.c, .slice la.p la.l.length la.c, .slice ps.p ps.l.length ps.c], .int .i64 who] w _
  go_enter Try.func17, Try.ntmps17
  go_wp2_with fail
  refine (HBO.out _ (hbl _)).mono ?_
  rintro e w1 ⟨rfl, hb⟩
  have bel : Below w.heap.size w w1 := (hbl _).trans (hb.mono (hbl _).size)
  have bA : w1.heap[w.heap.size]? = some (.cells #[.slice m.p m.l.length m.c, .slice la.p la.l.length la.c, .slice ps.p ps.l.length ps.c] 27 (0, 0)) := (hb.block _ (by simp)).trans (nw_k _ rfl)
  have BEL := Hid.intro bel
  clear hb HBO hbl
  cases hok : busOkP z
  · have HE : Hid (busApartP z who = false) := Hid.intro (by unfold busApartP; rw [hok]; rfl)
    go_wp2
    go_ret
    exact ⟨by rw [HE.out]; rfl, BEL.out⟩
  have H3 : Hid (z.2.2.length = 3) := Hid.intro (progs_three hok)
  have H30 : Hid (ps.l.length = 3) := Hid.intro (by
    have h1 := H3.out
    rw [HZ.out] at h1
    have h2 : (yBusCfg.pl (m, la, ps)).2.2.length = ps.l.length := List.length_map ..
    omega)
  cases hin : inB who 0 2
  · have HE : Hid (busApartP z who = false) := Hid.intro (by unfold busApartP; rw [hok, hin]; rfl)
    go_wp2_with (go_at_call 42; refine (in_any _ _ _ _).mono ?_; rintro e w' ⟨rfl, hw⟩; replace hw := hw.symm; subst hw)
    all_goals go_ret
    all_goals exact ⟨by rw [HE.out]; rfl, BEL.out⟩
  have hwho : 0 ≤ who ∧ who ≤ 2 := by simpa [inB] using hin
  obtain ⟨n, rfl⟩ : ∃ n : Nat, who = (n : Int) := ⟨who.toNat, by omega⟩
  have HE : Hid (busApartP z (n : Int) = apartB z n) := Hid.intro (by unfold busApartP; rw [hok, hin]; rfl)
  have hn3 : n < 3 := by omega
  have hps3 := H30.out
  clear H30
  -- the rows
  obtain ⟨bs, os, hp⟩ : ∃ bs os, ps.p = some ⟨bs, os, none⟩ := by
    obtain ⟨b, off, e, _⟩ := progs_at (yBusCfg_law.rd_blw HR.out bel).2.2 (k := 0) (by show 0 < ps.l.length; omega)
    exact ⟨b, off, e⟩
  obtain ⟨psp, psc, psl⟩ := ps
  simp only at hp hps3 bA ⊢
  subst hp
  have hKR : ∀ W, Below w1.heap.size w1 W → ∀ k (hk : k < psl.length), bs < W.heap.size ∧ W.cell? ⟨bs, os + k, none⟩ = some (.slice psl[k].p psl[k].l.length psl[k].c) ∧ yReqReqS.rd W psl[k] := fun W hW k hk => row_of (yBusCfg_law.rd_blw HR.out (bel.trans (hW.mono bel.size))).2.2 rfl hk
  have HKR := Hid.intro hKR
  have HMR : Hid (∀ W, Below w1.heap.size w1 W → yMapRangeS.rd W m) := Hid.intro (fun W hW => (yBusCfg_law.rd_blw HR.out (bel.trans (hW.mono bel.size))).1)
  have HSL : Hid (∀ k (hk : k < psl.length), slvs z k = psl[k].l.map (fun q => reqSlaveZ ((yMapRangeS.pl m).map rngOf) (reqOf (yReqReq.pl q)))) := Hid.intro (fun k hk => by
    unfold slvs
    have e1 : z.1 = yMapRangeS.pl m := by rw [HZ.out]; rfl
    have e2 : z.2.2.getD k [] = yReqReqS.pl psl[k] := by
      have : z.2.2 = psl.map yReqReqS.pl := by rw [HZ.out]; rfl
      rw [this, List.getD_eq_getElem?_getD, List.getElem?_map, List.getElem?_eq_getElem hk]
      rfl
    rw [e1, e2]
    show (((psl[k].l.map yReqReq.pl).map reqOf).map _) = _
    rw [List.map_map, List.map_map]
    rfl)
  have H33 := Hid.intro hps3
  clear hps3
  obtain ⟨A, hA⟩ : ∃ A, A = w.heap.size := ⟨_, rfl⟩
  rw [← hA] at bA ⊢
  have HBA := Hid.intro bA
  clear bA hA hKR bel hwho
  go_wp2_with (go_at_call 42; refine (in_any _ _ _ _).mono ?_; rintro e w' ⟨rfl, hw⟩; replace hw := hw.symm; subst hw)
  go_loopw [5] (fun i wr => ∃ k : Nat, k ≤ 3 ∧ i = .int .i64 k ∧ Below w1.heap.size w1 wr ∧ Hid (([0, 1, 2].take k).all (apartK z n) = true)) (fun i _ => 3 - (intOf i).toNat)
  case atStart => exact ⟨0, Nat.zero_le _, rfl, Below.refl _ _, Hid.intro rfl⟩
  case round =>
    obtain ⟨k, hk, rfl, hbl, HF⟩ := hrel
    by_cases hlt : k < 3
    rotate_left
    · have HX : Hid (apartB z n = true) := Hid.intro (all_end (l := [0, 1, 2]) (k := k) (by simp; omega) HF.out)
      have hk3 : ¬ ((k : Int) < 3) := by omega
      clear hin hok
      go_wp2
      go_ret
      exact ⟨by rw [HE.out, HX.out]; rfl, BEL.out.trans (hbl.mono BEL.out.size)⟩
    have hk0 : (0 : Int) ≤ (k : Int) := by omega
    have hk1 : (k : Int) < 3 := by omega
    have hkk : [0, 1, 2][k]'(by simpa using hlt) = k := by
      rcases k with _ | _ | _ | k <;> first | rfl | omega
    by_cases hkn : k = n
    · subst hkn
      have HX : Hid (([0, 1, 2].take (k + 1)).all (apartK z k) = true) := Hid.intro (all_step (by simpa using hlt) HF.out (by rw [hkk]; simp [apartK]))
      clear HF hkk
      go_wp2
      go_loopw [6] (fun i wr' => i = .int .i64 0 ∧ wr' = wr) (fun _ _ => 0)
      case atStart => exact ⟨rfl, rfl⟩
      case round =>
        obtain ⟨rfl, rfl⟩ := hrel
        go_wp2
        go_roundw
        case rel => exact ⟨k + 1, by omega, by go_num, hbl, HX⟩
        case measure => simp [intOf]; omega
    have hki : ¬ ((k : Int) = (n : Int)) := by omega
    have hkl : (k : Int) < (psl.length : Int) := by have := H33.out; omega
    have hnl : (n : Int) < (psl.length : Int) := by have := H33.out; omega
    have hkl' : k < psl.length := by omega
    have hnl' : n < psl.length := by omega
    have HSK := Hid.intro (HSL.out k hkl')
    have HSN := Hid.intro (HSL.out n hnl')
    have HRK : Hid (∀ W, Below w1.heap.size w1 W → bs < W.heap.size ∧ W.cell? ⟨bs, os + k, none⟩ = some (.slice psl[k].p psl[k].l.length psl[k].c) ∧ yReqReqS.rd W psl[k]) := Hid.intro (fun W hW => HKR.out W hW k hkl')
    have HRN : Hid (∀ W, Below w1.heap.size w1 W → bs < W.heap.size ∧ W.cell? ⟨bs, os + n, none⟩ = some (.slice psl[n].p psl[n].l.length psl[n].c) ∧ yReqReqS.rd W psl[n]) := Hid.intro (fun W hW => HKR.out W hW n hnl')
    have HKK := Hid.intro hkk
    generalize psl[k] = pk at HRK HSK
    generalize psl[n] = pn at HRN HSN
    obtain ⟨pkp, ck, lk0⟩ := pk
    obtain ⟨pnp, cn, ln0⟩ := pn
    clear hkk hkl' hnl'
    have hck1 : lk0.length ≤ ck := (HRK.out w1 (Below.refl _ _)).2.2.1
    have hck2 : ck ≤ 9223372036854775807 := (HRK.out w1 (Below.refl _ _)).2.2.2.1
    have hcn1 : ln0.length ≤ cn := (HRN.out w1 (Below.refl _ _)).2.2.1
    have hcn2 : cn ≤ 9223372036854775807 := (HRN.out w1 (Below.refl _ _)).2.2.2.1
    have HST : Hid ((slvs z k).all (fun x => (slvs z n).all (fun y => !(x == y))) = true → ([0, 1, 2].take (k + 1)).all (apartK z n) = true) := Hid.intro (fun h => all_step (by simpa using hlt) HF.out (by rw [HKK.out]; unfold apartK; rw [h]; simp))
    have HHT : Hid ((slvs z k).all (fun x => (slvs z n).all (fun y => !(x == y))) = false → apartB z n = false) := Hid.intro (fun h => all_hit (l := [0, 1, 2]) (k := k) (by simpa using hlt) (by rw [HKK.out]; unfold apartK; rw [h]; simp [hkn]))
    rw [HSK.out, HSN.out] at HST HHT
    clear hkn HF HSK HSN
    go_wp2
    go_loopw [6] (fun i wr => ∃ j : Nat, j ≤ lk0.length ∧ i = .int .i64 j ∧ Below w1.heap.size w1 wr ∧ Hid (((lk0.map (fun q => reqSlaveZ ((yMapRangeS.pl m).map rngOf) (reqOf (yReqReq.pl q)))).take j).all (fun x => (ln0.map (fun q => reqSlaveZ ((yMapRangeS.pl m).map rngOf) (reqOf (yReqReq.pl q)))).all (fun y => !(x == y))) = true)) (fun i _ => lk0.length - (intOf i).toNat)
    case atStart => exact ⟨0, Nat.zero_le _, rfl, hbl, Hid.intro rfl⟩
    case round =>
      clear hbl
      obtain ⟨j, hj, rfl, hbl, HFJ⟩ := hrel
      have hrk := HRK.out wr hbl
      have hbs := hrk.1
      have cK : wr.cell? ⟨bs, os + k, none⟩ = some (.slice pkp lk0.length ck) := hrk.2.1
      have cN : wr.cell? ⟨bs, os + n, none⟩ = some (.slice pnp ln0.length cn) := (HRN.out wr hbl).2.1
      have bW := (hbl.block _ (heap_lt HBA.out)).trans HBA.out
      have cA0 : wr.cell? ⟨A, 0, none⟩ = some (.slice m.p m.l.length m.c) := heap_cell bW 0
      have cA2 : wr.cell? ⟨A, 2, none⟩ = some (.slice (some ⟨bs, os, none⟩) psl.length psc) := heap_cell bW 2
      have hlA := heap_lt bW
      clear bW
      by_cases hjt : j < lk0.length
      rotate_left
      · have HX := Hid.intro (HST.out (all_end (k := j) (by simp; omega) HFJ.out))
        have hjn : ¬ ((j : Int) < (lk0.length : Int)) := by omega
        have HBL := Hid.intro hbl
        clear hrk HFJ hbl
        go_wp2
        go_roundw
        case rel => exact ⟨k + 1, by omega, by go_num, HBL.out, HX⟩
        case measure => simp [intOf]; omega
      have hjl : (j : Int) < (lk0.length : Int) := by omega
      have hj0 : (0 : Int) ≤ (j : Int) := by omega
      have hjm : j < (lk0.map (fun q => reqSlaveZ ((yMapRangeS.pl m).map rngOf) (reqOf (yReqReq.pl q)))).length := by simpa using hjt
      obtain ⟨bk, ok, hpk, _⟩ := reqs_at hrk.2.2 hjt
      simp only at hpk
      subst hpk
      have HJS := Hid.intro (fun h => all_step hjm HFJ.out h)
      have HJH := Hid.intro (fun h => HHT.out (all_hit hjm h))
      simp only [List.getElem_map] at HJS HJH
      have HRQ : Hid (∀ W, Below w1.heap.size w1 W → bk < W.heap.size ∧ (∀ i v, (yReqReq.cells lk0[j])[i]? = some v → W.cell? ⟨bk, ok + j * 7 + i, none⟩ = some v) ∧ yReqReq.rd W lk0[j]) := Hid.intro (fun W hW => req_of (HRK.out W hW).2.2 rfl hjt)
      generalize lk0[j] = q at HJS HJH HRQ
      obtain ⟨x, hx⟩ : ∃ x, x = reqSlaveZ ((yMapRangeS.pl m).map rngOf) (reqOf (yReqReq.pl q)) := ⟨_, rfl⟩
      rw [← hx] at HJS HJH
      have HX0 := Hid.intro hx
      clear hx hrk hjm HFJ
      go_wp2
      go_loopw [7] (fun i wr' => ∃ i' : Nat, i' ≤ ln0.length ∧ i = .int .i64 i' ∧ Below w1.heap.size w1 wr' ∧ Hid (((ln0.map (fun q => reqSlaveZ ((yMapRangeS.pl m).map rngOf) (reqOf (yReqReq.pl q)))).take i').all (fun y => !(x == y)) = true)) (fun i _ => ln0.length - (intOf i).toNat)
      case atStart => exact ⟨0, Nat.zero_le _, rfl, hbl, Hid.intro rfl⟩
      case round =>
        clear hbl hbs hlA cA0 cA2 cK cN
        obtain ⟨i, hi, rfl, hbw, HFI⟩ := hrel
        have hrk := HRK.out wr hbw
        have hrn := HRN.out wr hbw
        have hbs := hrk.1
        have cK : wr.cell? ⟨bs, os + k, none⟩ = some (.slice (some ⟨bk, ok, none⟩) lk0.length ck) := hrk.2.1
        have cN : wr.cell? ⟨bs, os + n, none⟩ = some (.slice pnp ln0.length cn) := hrn.2.1
        have bW := (hbw.block _ (heap_lt HBA.out)).trans HBA.out
        have cA0 : wr.cell? ⟨A, 0, none⟩ = some (.slice m.p m.l.length m.c) := heap_cell bW 0
        have cA2 : wr.cell? ⟨A, 2, none⟩ = some (.slice (some ⟨bs, os, none⟩) psl.length psc) := heap_cell bW 2
        have hlA := heap_lt bW
        clear bW
        by_cases hit : i < ln0.length
        rotate_left
        · have HX := Hid.intro (HJS.out (all_end (k := i) (by simp; omega) HFI.out))
          have hin' : ¬ ((i : Int) < (ln0.length : Int)) := by omega
          have HBL := Hid.intro hbw
          clear hrk hrn HFI hbw
          go_wp2
          go_roundw
          case rel => exact ⟨j + 1, by omega, by go_num, HBL.out, HX⟩
          case measure => simp [intOf]; omega
        have hil : (i : Int) < (ln0.length : Int) := by omega
        have hi0 : (0 : Int) ≤ (i : Int) := by omega
        have him : i < (ln0.map (fun q => reqSlaveZ ((yMapRangeS.pl m).map rngOf) (reqOf (yReqReq.pl q)))).length := by simpa using hit
        obtain ⟨bn, on, hpn, hbn, hcr, hrr⟩ := reqs_at hrn.2.2 hit
        simp only at hpn
        subst hpn
        have HIS := Hid.intro (fun h => all_step him HFI.out h)
        have HIH := Hid.intro (fun h => HJH.out (all_hit him h))
        simp only [List.getElem_map] at HIS HIH
        have HRR := Hid.intro hrr
        have hq := HRQ.out wr hbw
        have hbk := hq.1
        have hcq := hq.2.1
        have HQQ := Hid.intro hq.2.2
        generalize ln0[i] = r at hcr HIS HIH HRR
        obtain ⟨y, hy⟩ : ∃ y, y = reqSlaveZ ((yMapRangeS.pl m).map rngOf) (reqOf (yReqReq.pl r)) := ⟨_, rfl⟩
        rw [← hy] at HIS HIH
        have HMW := Hid.intro (HMR.out wr hbw)
        obtain ⟨q_0, q_1, q_2, q_3, q_4, q_5, q_6⟩ := q
        obtain ⟨r_0, r_1, r_2, r_3, r_4, r_5, r_6⟩ := r
        have HSQ : Hid (∀ W, Below wr.heap.size wr W → Calls Try.prog 46 #[.slice m.p m.l.length m.c, .agg #[.int .i64 q_0, .int .i64 q_1, .int .i64 q_2, .int .i64 q_3, .bool q_4, .slice q_5.p q_5.l.length q_5.c, .slice q_6.p q_6.l.length q_6.c]] W fun e w' => e = .returned (.int .i64 x) ∧ Below W.heap.size W w') := Hid.intro (fun W hW => by rw [HX0.out]; exact slv_kinds spec_ReqSlave m (q_0, q_1, q_2, q_3, q_4, q_5, q_6) W (yMapRangeS_law.rd_blw HMW.out hW) (yReqReq_law.rd_blw HQQ.out hW))
        have HSR : Hid (∀ W, Below wr.heap.size wr W → Calls Try.prog 46 #[.slice m.p m.l.length m.c, .agg #[.int .i64 r_0, .int .i64 r_1, .int .i64 r_2, .int .i64 r_3, .bool r_4, .slice r_5.p r_5.l.length r_5.c, .slice r_6.p r_6.l.length r_6.c]] W fun e w' => e = .returned (.int .i64 y) ∧ Below W.heap.size W w') := Hid.intro (fun W hW => by rw [hy]; exact slv_kinds spec_ReqSlave m (r_0, r_1, r_2, r_3, r_4, r_5, r_6) W (yMapRangeS_law.rd_blw HMW.out hW) (yReqReq_law.rd_blw HRR.out hW))
        have cq0 : wr.cell? ⟨bk, ok + j * 7, none⟩ = some (.int .i64 q_0) := hcq 0 _ rfl
        have cq1 : wr.cell? ⟨bk, ok + j * 7 + 1, none⟩ = some (.int .i64 q_1) := hcq 1 _ rfl
        have cq2 : wr.cell? ⟨bk, ok + j * 7 + 2, none⟩ = some (.int .i64 q_2) := hcq 2 _ rfl
        have cq3 : wr.cell? ⟨bk, ok + j * 7 + 3, none⟩ = some (.int .i64 q_3) := hcq 3 _ rfl
        have cq4 : wr.cell? ⟨bk, ok + j * 7 + 4, none⟩ = some (.bool q_4) := hcq 4 _ rfl
        have cq5 : wr.cell? ⟨bk, ok + j * 7 + 5, none⟩ = some (.slice q_5.p q_5.l.length q_5.c) := hcq 5 _ rfl
        have cq6 : wr.cell? ⟨bk, ok + j * 7 + 6, none⟩ = some (.slice q_6.p q_6.l.length q_6.c) := hcq 6 _ rfl
        have cr0 : wr.cell? ⟨bn, on + i * 7, none⟩ = some (.int .i64 r_0) := hcr 0 _ rfl
        have cr1 : wr.cell? ⟨bn, on + i * 7 + 1, none⟩ = some (.int .i64 r_1) := hcr 1 _ rfl
        have cr2 : wr.cell? ⟨bn, on + i * 7 + 2, none⟩ = some (.int .i64 r_2) := hcr 2 _ rfl
        have cr3 : wr.cell? ⟨bn, on + i * 7 + 3, none⟩ = some (.int .i64 r_3) := hcr 3 _ rfl
        have cr4 : wr.cell? ⟨bn, on + i * 7 + 4, none⟩ = some (.bool r_4) := hcr 4 _ rfl
        have cr5 : wr.cell? ⟨bn, on + i * 7 + 5, none⟩ = some (.slice r_5.p r_5.l.length r_5.c) := hcr 5 _ rfl
        have cr6 : wr.cell? ⟨bn, on + i * 7 + 6, none⟩ = some (.slice r_6.p r_6.l.length r_6.c) := hcr 6 _ rfl
        have HBW := Hid.intro hbw
        clear hq hcq hcr hrr hy hrk hrn him HFI hbw
        go_wp2_with fail
        refine wp_region_typed (by kernel_rfl) Gr (fun _ W => Below wr.heap.size wr W)
          (tab [(45, kIs (.pointer (some ⟨A, 0, none⟩))), (46, kIs (.slice m.p m.l.length m.c)), (47, kIs (.pointer (some ⟨A, 2, none⟩))), (48, kIs (.slice (some ⟨bs, os, none⟩) psl.length psc)), (49, kIs (.int .i64 (k : Int))), (50, kIs (.pointer (some ⟨bs, os + k, none⟩))), (51, kIs (.slice (some ⟨bk, ok, none⟩) lk0.length ck)), (52, kIs (.int .i64 (j : Int))), (53, kIs (.pointer (some ⟨bk, ok + j * 7, none⟩))), (54, kIs (.agg #[.int .i64 q_0, .int .i64 q_1, .int .i64 q_2, .int .i64 q_3, .bool q_4, .slice q_5.p q_5.l.length q_5.c, .slice q_6.p q_6.l.length q_6.c])), (55, kIs (.int .i64 x)), (56, kIs (.pointer (some ⟨A, 0, none⟩))), (57, kIs (.slice m.p m.l.length m.c)), (58, kIs (.pointer (some ⟨A, 2, none⟩))), (59, kIs (.slice (some ⟨bs, os, none⟩) psl.length psc)), (60, kIs (.int .i64 (n : Int))), (61, kIs (.pointer (some ⟨bs, os + n, none⟩))), (62, kIs (.slice (some ⟨bn, on, none⟩) ln0.length cn)), (63, kIs (.int .i64 (i : Int))), (64, kIs (.pointer (some ⟨bn, on + i * 7, none⟩))), (65, kIs (.agg #[.int .i64 r_0, .int .i64 r_1, .int .i64 r_2, .int .i64 r_3, .bool r_4, .slice r_5.p r_5.l.length r_5.c, .slice r_6.p r_6.l.length r_6.c])), (66, kIs (.int .i64 y)), (67, kIs (.bool (x == y)))])
          [45, 46, 47, 48, 49, 50, 51, 52, 53, 54, 55, 56, 57, 58, 59, 60, 61, 62, 63, 64, 65, 66, 67] (by kernel_rfl) (by kernel_rfl) ?_ ?_ ?_ ?_
        · refine tabR_stable ?_
          intro x hx
          simp only [List.mem_cons, List.not_mem_nil, or_false] at hx
          rcases hx with rfl | rfl | rfl | rfl | rfl | rfl | rfl | rfl | rfl | rfl | rfl | rfl | rfl | rfl | rfl | rfl | rfl | rfl | rfl | rfl | rfl | rfl | rfl
          all_goals intro w w' v hr hv
          all_goals first | exact hv
        · exact (Below.refl _ _).drew
        · refine ops_cons (gd rfl <| tx_pure rfl rfl (fun _ _ h => h) Gr.refl (fun ix ρ W hat hW => ?_)) ?_
          · have e0 := hat.out 2 (by kernel_rfl)
            simp [Act.eval] at e0
            simp only [execOp, e0]; go_simp
          refine ops_cons (gd rfl <| tx_pure rfl rfl (fun _ _ h => h) Gr.refl (fun ix ρ W hat hW => ?_)) ?_
          · have e0 : ρ (.tmp 45) = _ := hat.dep 45 (by kernel_rfl)
            have c0 : W.cell? ⟨A, 0, none⟩ = some (.slice m.p m.l.length m.c) := (hW.cell (p := ⟨A, 0, none⟩) hlA).trans cA0
            simp only [execOp, e0]; go_simp
          refine ops_cons (gd rfl <| tx_pure rfl rfl (fun _ _ h => h) Gr.refl (fun ix ρ W hat hW => ?_)) ?_
          · have e0 := hat.out 2 (by kernel_rfl)
            simp [Act.eval] at e0
            simp only [execOp, e0]; go_simp
          refine ops_cons (gd rfl <| tx_pure rfl rfl (fun _ _ h => h) Gr.refl (fun ix ρ W hat hW => ?_)) ?_
          · have e0 : ρ (.tmp 47) = _ := hat.dep 47 (by kernel_rfl)
            have c0 : W.cell? ⟨A, 2, none⟩ = some (.slice (some ⟨bs, os, none⟩) psl.length psc) := (hW.cell (p := ⟨A, 2, none⟩) hlA).trans cA2
            simp only [execOp, e0]; go_simp
          refine ops_cons (gd rfl <| tx_pure rfl rfl (fun _ _ h => h) Gr.refl (fun ix ρ W hat hW => ?_)) ?_
          · have e0 := hat.out 5 (by kernel_rfl)
            simp [Act.eval] at e0
            simp only [execOp, e0]; go_simp
          refine ops_cons (gd rfl <| tx_pure rfl rfl (fun _ _ h => h) Gr.refl (fun ix ρ W hat hW => ?_)) ?_
          · have e0 : ρ (.tmp 48) = _ := hat.dep 48 (by kernel_rfl)
            have e1 : ρ (.tmp 49) = _ := hat.dep 49 (by kernel_rfl)
            have u0 : (0 : Int) ≤ (k : Int) := by omega
            have u1 : (k : Int) < (psl.length : Int) := hkl
            simp only [execOp, e0, e1]; go_simp
          refine ops_cons (gd rfl <| tx_pure rfl rfl (fun _ _ h => h) Gr.refl (fun ix ρ W hat hW => ?_)) ?_
          · have e0 : ρ (.tmp 50) = _ := hat.dep 50 (by kernel_rfl)
            have c0 : W.cell? ⟨bs, os + k, none⟩ = some (.slice (some ⟨bk, ok, none⟩) lk0.length ck) := (hW.cell (p := ⟨bs, os + k, none⟩) hbs).trans cK
            simp only [execOp, e0]; go_simp
          refine ops_cons (gd rfl <| tx_pure rfl rfl (fun _ _ h => h) Gr.refl (fun ix ρ W hat hW => ?_)) ?_
          · have e0 := hat.out 6 (by kernel_rfl)
            simp [Act.eval] at e0
            simp only [execOp, e0]; go_simp
          refine ops_cons (gd rfl <| tx_pure rfl rfl (fun _ _ h => h) Gr.refl (fun ix ρ W hat hW => ?_)) ?_
          · have e0 : ρ (.tmp 51) = _ := hat.dep 51 (by kernel_rfl)
            have e1 : ρ (.tmp 52) = _ := hat.dep 52 (by kernel_rfl)
            have u0 : (0 : Int) ≤ (j : Int) := by omega
            have u1 : (j : Int) < (lk0.length : Int) := hjl
            simp only [execOp, e0, e1]; go_simp
          refine ops_cons (gd rfl <| tx_pure rfl rfl (fun _ _ h => h) Gr.refl (fun ix ρ W hat hW => ?_)) ?_
          · have e0 : ρ (.tmp 53) = _ := hat.dep 53 (by kernel_rfl)
            have c0 : W.cell? ⟨bk, ok + j * 7, none⟩ = some (.int .i64 q_0) := (hW.cell (p := ⟨bk, ok + j * 7, none⟩) hbk).trans cq0
            have c1 : W.cell? ⟨bk, ok + j * 7 + 1, none⟩ = some (.int .i64 q_1) := (hW.cell (p := ⟨bk, ok + j * 7 + 1, none⟩) hbk).trans cq1
            have c2 : W.cell? ⟨bk, ok + j * 7 + 2, none⟩ = some (.int .i64 q_2) := (hW.cell (p := ⟨bk, ok + j * 7 + 2, none⟩) hbk).trans cq2
            have c3 : W.cell? ⟨bk, ok + j * 7 + 3, none⟩ = some (.int .i64 q_3) := (hW.cell (p := ⟨bk, ok + j * 7 + 3, none⟩) hbk).trans cq3
            have c4 : W.cell? ⟨bk, ok + j * 7 + 4, none⟩ = some (.bool q_4) := (hW.cell (p := ⟨bk, ok + j * 7 + 4, none⟩) hbk).trans cq4
            have c5 : W.cell? ⟨bk, ok + j * 7 + 5, none⟩ = some (.slice q_5.p q_5.l.length q_5.c) := (hW.cell (p := ⟨bk, ok + j * 7 + 5, none⟩) hbk).trans cq5
            have c6 : W.cell? ⟨bk, ok + j * 7 + 6, none⟩ = some (.slice q_6.p q_6.l.length q_6.c) := (hW.cell (p := ⟨bk, ok + j * 7 + 6, none⟩) hbk).trans cq6
            simp only [execOp, e0]; go_simp
          refine ops_cons (gd rfl <| tx_call rfl (fun ix ρ W _ hat hW => ?_)) ?_
          · have hf := hat.fn
            have e0 : ρ (.tmp 46) = _ := hat.dep 46 (by kernel_rfl)
            have e1 : ρ (.tmp 54) = _ := hat.dep 54 (by kernel_rfl)
            refine ⟨46, #[.slice m.p m.l.length m.c, .agg #[.int .i64 q_0, .int .i64 q_1, .int .i64 q_2, .int .i64 q_3, .bool q_4, .slice q_5.p q_5.l.length q_5.c, .slice q_6.p q_6.l.length q_6.c]], by simp only [execOp]; go_simp, ?_⟩
            refine (HSQ.out W hW).mono ?_
            rintro e W' ⟨rfl, hb⟩
            exact ⟨_, rfl, hW.trans (hb.mono hW.size), hb, rfl⟩
          refine ops_cons (gd rfl <| tx_pure rfl rfl (fun _ _ h => h) Gr.refl (fun ix ρ W hat hW => ?_)) ?_
          · have e0 := hat.out 2 (by kernel_rfl)
            simp [Act.eval] at e0
            simp only [execOp, e0]; go_simp
          refine ops_cons (gd rfl <| tx_pure rfl rfl (fun _ _ h => h) Gr.refl (fun ix ρ W hat hW => ?_)) ?_
          · have e0 : ρ (.tmp 56) = _ := hat.dep 56 (by kernel_rfl)
            have c0 : W.cell? ⟨A, 0, none⟩ = some (.slice m.p m.l.length m.c) := (hW.cell (p := ⟨A, 0, none⟩) hlA).trans cA0
            simp only [execOp, e0]; go_simp
          refine ops_cons (gd rfl <| tx_pure rfl rfl (fun _ _ h => h) Gr.refl (fun ix ρ W hat hW => ?_)) ?_
          · have e0 := hat.out 2 (by kernel_rfl)
            simp [Act.eval] at e0
            simp only [execOp, e0]; go_simp
          refine ops_cons (gd rfl <| tx_pure rfl rfl (fun _ _ h => h) Gr.refl (fun ix ρ W hat hW => ?_)) ?_
          · have e0 : ρ (.tmp 58) = _ := hat.dep 58 (by kernel_rfl)
            have c0 : W.cell? ⟨A, 2, none⟩ = some (.slice (some ⟨bs, os, none⟩) psl.length psc) := (hW.cell (p := ⟨A, 2, none⟩) hlA).trans cA2
            simp only [execOp, e0]; go_simp
          refine ops_cons (gd rfl <| tx_pure rfl rfl (fun _ _ h => h) Gr.refl (fun ix ρ W hat hW => ?_)) ?_
          · have e0 := hat.out 1 (by kernel_rfl)
            simp [Act.eval] at e0
            simp only [execOp, e0]; go_simp
          refine ops_cons (gd rfl <| tx_pure rfl rfl (fun _ _ h => h) Gr.refl (fun ix ρ W hat hW => ?_)) ?_
          · have e0 : ρ (.tmp 59) = _ := hat.dep 59 (by kernel_rfl)
            have e1 : ρ (.tmp 60) = _ := hat.dep 60 (by kernel_rfl)
            have u0 : (0 : Int) ≤ (n : Int) := by omega
            have u1 : (n : Int) < (psl.length : Int) := hnl
            simp only [execOp, e0, e1]; go_simp
          refine ops_cons (gd rfl <| tx_pure rfl rfl (fun _ _ h => h) Gr.refl (fun ix ρ W hat hW => ?_)) ?_
          · have e0 : ρ (.tmp 61) = _ := hat.dep 61 (by kernel_rfl)
            have c0 : W.cell? ⟨bs, os + n, none⟩ = some (.slice (some ⟨bn, on, none⟩) ln0.length cn) := (hW.cell (p := ⟨bs, os + n, none⟩) hbs).trans cN
            simp only [execOp, e0]; go_simp
          refine ops_cons (gd rfl <| tx_pure rfl rfl (fun _ _ h => h) Gr.refl (fun ix ρ W hat hW => ?_)) ?_
          · have e0 := hat.out 7 (by kernel_rfl)
            simp [Act.eval] at e0
            simp only [execOp, e0]; go_simp
          refine ops_cons (gd rfl <| tx_pure rfl rfl (fun _ _ h => h) Gr.refl (fun ix ρ W hat hW => ?_)) ?_
          · have e0 : ρ (.tmp 62) = _ := hat.dep 62 (by kernel_rfl)
            have e1 : ρ (.tmp 63) = _ := hat.dep 63 (by kernel_rfl)
            have u0 : (0 : Int) ≤ (i : Int) := by omega
            have u1 : (i : Int) < (ln0.length : Int) := hil
            simp only [execOp, e0, e1]; go_simp
          refine ops_cons (gd rfl <| tx_pure rfl rfl (fun _ _ h => h) Gr.refl (fun ix ρ W hat hW => ?_)) ?_
          · have e0 : ρ (.tmp 64) = _ := hat.dep 64 (by kernel_rfl)
            have c0 : W.cell? ⟨bn, on + i * 7, none⟩ = some (.int .i64 r_0) := (hW.cell (p := ⟨bn, on + i * 7, none⟩) hbn).trans cr0
            have c1 : W.cell? ⟨bn, on + i * 7 + 1, none⟩ = some (.int .i64 r_1) := (hW.cell (p := ⟨bn, on + i * 7 + 1, none⟩) hbn).trans cr1
            have c2 : W.cell? ⟨bn, on + i * 7 + 2, none⟩ = some (.int .i64 r_2) := (hW.cell (p := ⟨bn, on + i * 7 + 2, none⟩) hbn).trans cr2
            have c3 : W.cell? ⟨bn, on + i * 7 + 3, none⟩ = some (.int .i64 r_3) := (hW.cell (p := ⟨bn, on + i * 7 + 3, none⟩) hbn).trans cr3
            have c4 : W.cell? ⟨bn, on + i * 7 + 4, none⟩ = some (.bool r_4) := (hW.cell (p := ⟨bn, on + i * 7 + 4, none⟩) hbn).trans cr4
            have c5 : W.cell? ⟨bn, on + i * 7 + 5, none⟩ = some (.slice r_5.p r_5.l.length r_5.c) := (hW.cell (p := ⟨bn, on + i * 7 + 5, none⟩) hbn).trans cr5
            have c6 : W.cell? ⟨bn, on + i * 7 + 6, none⟩ = some (.slice r_6.p r_6.l.length r_6.c) := (hW.cell (p := ⟨bn, on + i * 7 + 6, none⟩) hbn).trans cr6
            simp only [execOp, e0]; go_simp
          refine ops_cons (gd rfl <| tx_call rfl (fun ix ρ W _ hat hW => ?_)) ?_
          · have hf := hat.fn
            have e0 : ρ (.tmp 57) = _ := hat.dep 57 (by kernel_rfl)
            have e1 : ρ (.tmp 65) = _ := hat.dep 65 (by kernel_rfl)
            refine ⟨46, #[.slice m.p m.l.length m.c, .agg #[.int .i64 r_0, .int .i64 r_1, .int .i64 r_2, .int .i64 r_3, .bool r_4, .slice r_5.p r_5.l.length r_5.c, .slice r_6.p r_6.l.length r_6.c]], by simp only [execOp]; go_simp, ?_⟩
            refine (HSR.out W hW).mono ?_
            rintro e W' ⟨rfl, hb⟩
            exact ⟨_, rfl, hW.trans (hb.mono hW.size), hb, rfl⟩
          refine ops_cons (gd rfl <| tx_pure rfl rfl (fun _ _ h => h) Gr.refl (fun ix ρ W hat hW => ?_)) ?_
          · have hc := hat.con
            have e0 : ρ (.tmp 55) = _ := hat.dep 55 (by kernel_rfl)
            have e1 : ρ (.tmp 66) = _ := hat.dep 66 (by kernel_rfl)
            simp only [execOp, e0, e1]; go_simp
          exact ops_nil
        intro f w9 hb hf
        have ee67 : f 67 = .bool (x == y) := hf 67 (by simp)
        clear hf
        simp only [fill, ee67]
        go_simp
        clear ee67
        cases hxy : (x == y)
        · have HX := Hid.intro (HIS.out (by rw [hxy]; rfl))
          have HB9 := Hid.intro (HBW.out.trans (hb.mono HBW.out.size))
          clear hb cK cN cA0 cA2 hbs hbk hbn cq0 cq1 cq2 cq3 cq4 cq5 cq6 cr0 cr1 cr2 cr3 cr4 cr5 cr6
          go_wp2
          go_roundw
          case rel => exact ⟨i + 1, by omega, by go_num, HB9.out, HX⟩
          case measure => simp [intOf]; omega
        · have HX := Hid.intro (HIH.out (by rw [hxy]; rfl))
          have HB9 := Hid.intro (BEL.out.trans ((HBW.out.trans (hb.mono HBW.out.size)).mono BEL.out.size))
          clear hb cK cN cA0 cA2 hbs hbk hbn cq0 cq1 cq2 cq3 cq4 cq5 cq6 cr0 cr1 cr2 cr3 cr4 cr5 cr6
          go_wp2
          go_ret
          exact ⟨by rw [HE.out, HX.out]; rfl, HB9.out⟩

end Go.Proofs.Ytlifkfemdknndaa
