/-
  What is apart, of the program; TrcApart by kinds.
-/
import Derived.Test.YtgjlkmhbaimjpaaTrA
import Derived.Test.YtgjlkmhbaimjpaaApI
import Derived.Test.YtgjlkmhbaimjpaaKTlmEvent
import Derived.Test.YtgjlkmhbaimjpaaOpsXM
import Derived.Test.YtgjlkmhbaimjpaaTrMM
/-
  What is apart: Kinds of something that is asked, and two of them, of model and program.
-/
namespace Go.Proofs.Ytgjlkmhbaimjpaa
open Go.RowKit
set_option linter.unusedSimpArgs false
set_option linter.unusedVariables false

theorem wrap_of {x : Int} (h1 : -9223372036854775808 ≤ x) (h2 : x ≤ 9223372036854775807) : IntKind.i64.wrap x = x := by
  rw [IntKind.wrap_i64]; omega
theorem lenP_at {m : (Lst (Int × Int × Int × Bool))} {la : Lst Int} {bs os psc : Nat} {psl : List (Lst (Int × Int × Int × Int × Bool × (Lst Int) × (Lst Int)))} {k : Nat} (hk : k < psl.length) : lenP (yBusCfg.pl (m, la, (⟨some ⟨bs, os, none⟩, psc, psl⟩ : Lst (Lst (Int × Int × Int × Int × Bool × (Lst Int) × (Lst Int)))))) (k : Int) = (psl[k].l.length : Int) := by
  unfold lenP
  have e2 : ((yBusCfg.pl (m, la, (⟨some ⟨bs, os, none⟩, psc, psl⟩ : Lst (Lst (Int × Int × Int × Int × Bool × (Lst Int) × (Lst Int))))))).2.2.getD (k : Int).toNat [] = yReqReqS.pl psl[k] := by
    have : ((yBusCfg.pl (m, la, (⟨some ⟨bs, os, none⟩, psc, psl⟩ : Lst (Lst (Int × Int × Int × Int × Bool × (Lst Int) × (Lst Int))))))).2.2 = psl.map yReqReqS.pl := rfl
    rw [this, List.getD_eq_getElem?_getD, List.getElem?_map, Int.toNat_natCast, List.getElem?_eq_getElem hk]
    rfl
  rw [e2]
  show ((psl[k].l.map yReqReq.pl).length : Int) = _
  simp
theorem askedP_at {m : (Lst (Int × Int × Int × Bool))} {la : Lst Int} {bs os psc : Nat} {psl : List (Lst (Int × Int × Int × Int × Bool × (Lst Int) × (Lst Int)))} {k j : Nat} (hk : k < psl.length) (hj : j < psl[k].l.length) : askedP (yBusCfg.pl (m, la, (⟨some ⟨bs, os, none⟩, psc, psl⟩ : Lst (Lst (Int × Int × Int × Int × Bool × (Lst Int) × (Lst Int)))))) (k : Int) (j : Int) = reqOf (yReqReq.pl psl[k].l[j]) := by
  unfold askedP
  have e2 : ((yBusCfg.pl (m, la, (⟨some ⟨bs, os, none⟩, psc, psl⟩ : Lst (Lst (Int × Int × Int × Int × Bool × (Lst Int) × (Lst Int))))))).2.2.getD (k : Int).toNat [] = yReqReqS.pl psl[k] := by
    have : ((yBusCfg.pl (m, la, (⟨some ⟨bs, os, none⟩, psc, psl⟩ : Lst (Lst (Int × Int × Int × Int × Bool × (Lst Int) × (Lst Int))))))).2.2 = psl.map yReqReqS.pl := rfl
    rw [this, List.getD_eq_getElem?_getD, List.getElem?_map, Int.toNat_natCast, List.getElem?_eq_getElem hk]
    rfl
  rw [e2]
  have e3 : (yReqReqS.pl psl[k]).getD (j : Int).toNat (0, 0, 0, 0, false, [], []) = yReqReq.pl psl[k].l[j] := by
    show (psl[k].l.map yReqReq.pl).getD _ _ = _
    rw [List.getD_eq_getElem?_getD, List.getElem?_map, Int.toNat_natCast, List.getElem?_eq_getElem hj]
    rfl
  rw [e3]

theorem in_yes {n lo hi : Int} {b : Bool} (h : inB n lo hi = b) (w : World) : Calls Try.prog 54 #[.int .i64 n, .int .i64 lo, .int .i64 hi] w fun e w' => e = .returned (.bool b) ∧ w' = w := by
  rw [← h]; exact in_any n lo hi w

set_option maxRecDepth 100000 in
set_option maxHeartbeats 4000000 in
theorem l9Does_any (m : (Lst (Int × Int × Int × Bool))) (la : Lst Int) (bs os psc : Nat) (psl : List (Lst (Int × Int × Int × Int × Bool × (Lst Int) × (Lst Int)))) (e_0 e_1 e_2 : Int) (w : World) (h : yBusCfg.rd w (m, la, (⟨some ⟨bs, os, none⟩, psc, psl⟩ : Lst (Lst (Int × Int × Int × Int × Bool × (Lst Int) × (Lst Int)))))) (h3 : psl.length = 3) :
    Calls Try.prog 78 #[.agg #[.slice m.p m.l.length m.c, .slice la.p la.l.length la.c, .slice (some ⟨bs, os, none⟩) psl.length psc], .agg #[.int .i64 e_0, .int .i64 e_1, .int .i64 e_2]] w fun e w' => e = .returned (.bool (doesP (yBusCfg.pl (m, la, (⟨some ⟨bs, os, none⟩, psc, psl⟩ : Lst (Lst (Int × Int × Int × Int × Bool × (Lst Int) × (Lst Int)))))) (e_0, e_1, e_2))) ∧ Below w.heap.size w w' := by
  have hbl : ∀ o o', Below w.heap.size w ((w.alloc o).alloc o') := fun o o' => ((Below.refl _ w).alloc (Nat.le_refl _) o).alloc (by simp) o'
  by_cases h1 : 1 ≤ e_0 ∧ e_0 ≤ 3
  rotate_left
  · have hq1 := inB_f h1
    have HE : Hid (doesP (yBusCfg.pl (m, la, (⟨some ⟨bs, os, none⟩, psc, psl⟩ : Lst (Lst (Int × Int × Int × Int × Bool × (Lst Int) × (Lst Int)))))) (e_0, e_1, e_2) = false) := Hid.intro (by unfold doesP; simp only [inB_f h1]; rfl)
    clear h h3 h1
    go_enter Try.func78, Try.ntmps78
    go_wp2_with fail
    go_quiet ((go_at_call 54; exact Calls.quiet_of_same (in_yes (by assumption) _)))
    go_wp2
    go_ret
    exact ⟨by rw [HE.out]; rfl, below_drewN (hbl _ _) nq⟩
  have hq1 := inB_t h1
  by_cases h2 : 0 ≤ e_1 ∧ e_1 ≤ 2
  rotate_left
  · have hq2 := inB_f h2
    have HE : Hid (doesP (yBusCfg.pl (m, la, (⟨some ⟨bs, os, none⟩, psc, psl⟩ : Lst (Lst (Int × Int × Int × Int × Bool × (Lst Int) × (Lst Int)))))) (e_0, e_1, e_2) = false) := Hid.intro (by unfold doesP; simp only [inB_f h2, inB_t h1]; rfl)
    clear h h3 h1 h2
    go_enter Try.func78, Try.ntmps78
    go_wp2_with fail
    go_quiet ((go_at_call 54; exact Calls.quiet_of_same (in_yes (by assumption) _)))
    go_wp2
    go_ret
    exact ⟨by rw [HE.out]; rfl, below_drewN (hbl _ _) nq⟩
  have hq2 := inB_t h2
  obtain ⟨k, rfl⟩ : ∃ k : Nat, e_1 = (k : Int) := ⟨e_1.toNat, by omega⟩
  have hkl : k < psl.length := by omega
  obtain ⟨hbs, cK, hr⟩ := row_of h.2.2 rfl hkl
  have hb1 : bs < w.heap.size + 1 := by omega
  have HE : Hid (doesP (yBusCfg.pl (m, la, (⟨some ⟨bs, os, none⟩, psc, psl⟩ : Lst (Lst (Int × Int × Int × Int × Bool × (Lst Int) × (Lst Int)))))) (e_0, (k : Int), e_2) = inB e_2 0 ((psl[k].l.length : Int) - 1)) := Hid.intro (by unfold doesP; rw [lenP_at hkl]; simp only [hq1, hq2]; rfl)
  have hl1 : psl[k].l.length ≤ psl[k].c := hr.1
  have hl2 : psl[k].c ≤ 9223372036854775807 := hr.2.1
  have hk0 : (0 : Int) ≤ (k : Int) := by omega
  have hk1 : (k : Int) < (psl.length : Int) := by omega
  generalize psl[k] = pk at hr cK HE hl1 hl2
  obtain ⟨pp, cc, ll⟩ := pk
  simp only at hl1 hl2 cK HE
  have hwr : IntKind.i64.wrap ((ll.length : Int) - 1) = (ll.length : Int) - 1 := wrap_of (by omega) (by omega)
  obtain ⟨b3, hq3⟩ : ∃ b, inB e_2 0 ((ll.length : Int) - 1) = b := ⟨_, rfl⟩
  rw [hq3] at HE
  clear h h3 h1 h2 hr hl1 hl2
  go_enter Try.func78, Try.ntmps78
  go_wp2_with fail
  go_quiet ((go_at_call 54; exact Calls.quiet_of_same (in_yes (by assumption) _)))
  go_wp2
  go_ret
  exact ⟨by rw [HE.out]; rfl, below_drewN (hbl _ _) nq⟩

set_option maxRecDepth 100000 in
set_option maxHeartbeats 4000000 in
theorem busAsks_any (m : (Lst (Int × Int × Int × Bool))) (la : Lst Int) (bs os psc : Nat) (psl : List (Lst (Int × Int × Int × Int × Bool × (Lst Int) × (Lst Int)))) (e_1 e_2 : Int) (w : World) (h : yBusCfg.rd w (m, la, (⟨some ⟨bs, os, none⟩, psc, psl⟩ : Lst (Lst (Int × Int × Int × Int × Bool × (Lst Int) × (Lst Int)))))) (h3 : psl.length = 3) :
    Calls Try.prog 114 #[.agg #[.slice m.p m.l.length m.c, .slice la.p la.l.length la.c, .slice (some ⟨bs, os, none⟩) psl.length psc], .int .i64 e_1, .int .i64 e_2] w fun e w' => e = .returned (.bool (inB e_1 0 2 && inB e_2 0 (lenP (yBusCfg.pl (m, la, (⟨some ⟨bs, os, none⟩, psc, psl⟩ : Lst (Lst (Int × Int × Int × Int × Bool × (Lst Int) × (Lst Int)))))) e_1 - 1))) ∧ Below w.heap.size w w' := by
  have hbl : ∀ o, Below w.heap.size w (w.alloc o) := fun o => (Below.refl _ w).alloc (Nat.le_refl _) o
  by_cases h2 : 0 ≤ e_1 ∧ e_1 ≤ 2
  rotate_left
  · have HE : Hid ((inB e_1 0 2 && inB e_2 0 (lenP (yBusCfg.pl (m, la, (⟨some ⟨bs, os, none⟩, psc, psl⟩ : Lst (Lst (Int × Int × Int × Int × Bool × (Lst Int) × (Lst Int)))))) e_1 - 1)) = false) := Hid.intro (by rw [inB_f h2]; rfl)
    have HW : Hid (∀ W, Calls Try.prog 67 #[.int .i64 e_1] W fun e w' => e = .returned (.bool false) ∧ w' = W) := Hid.intro (fun W => by have := whoOk_any e_1 W; rw [inB_f h2] at this; exact this)
    clear h h3 h2
    go_enter Try.func114, Try.ntmps114
    go_wp2_with (go_at_call 67; refine (HW.out _).mono ?_; rintro e w' ⟨rfl, hw⟩; subst hw)
    go_ret
    exact ⟨by rw [HE.out]; rfl, hbl _⟩
  have HW : Hid (∀ W, Calls Try.prog 67 #[.int .i64 e_1] W fun e w' => e = .returned (.bool true) ∧ w' = W) := Hid.intro (fun W => by have := whoOk_any e_1 W; rw [inB_t h2] at this; exact this)
  have hq2 := inB_t h2
  obtain ⟨k, rfl⟩ : ∃ k : Nat, e_1 = (k : Int) := ⟨e_1.toNat, by omega⟩
  have hkl : k < psl.length := by omega
  obtain ⟨hbs, cK, hr⟩ := row_of h.2.2 rfl hkl
  have HE : Hid ((inB (k : Int) 0 2 && inB e_2 0 (lenP (yBusCfg.pl (m, la, (⟨some ⟨bs, os, none⟩, psc, psl⟩ : Lst (Lst (Int × Int × Int × Int × Bool × (Lst Int) × (Lst Int)))))) (k : Int) - 1)) = inB e_2 0 ((psl[k].l.length : Int) - 1)) := Hid.intro (by rw [lenP_at hkl, hq2]; rfl)
  have hk0 : (0 : Int) ≤ (k : Int) := by omega
  have hk1 : (k : Int) < (psl.length : Int) := by omega
  generalize psl[k] = pk at hr cK HE
  obtain ⟨pp, cc, ll⟩ := pk
  simp only at cK HE
  clear h h3 h2 hr hq2
  by_cases h4 : 0 ≤ e_2
  rotate_left
  · have HX : Hid (inB e_2 0 ((ll.length : Int) - 1) = false) := Hid.intro (inB_f (by omega))
    go_enter Try.func114, Try.ntmps114
    go_wp2_with (go_at_call 67; refine (HW.out _).mono ?_; rintro e w' ⟨rfl, hw⟩; subst hw)
    go_ret
    exact ⟨by rw [HE.out, HX.out]; rfl, hbl _⟩
  by_cases h5 : e_2 < (ll.length : Int)
  rotate_left
  · have HX : Hid (inB e_2 0 ((ll.length : Int) - 1) = false) := Hid.intro (inB_f (by omega))
    go_enter Try.func114, Try.ntmps114
    go_wp2_with (go_at_call 67; refine (HW.out _).mono ?_; rintro e w' ⟨rfl, hw⟩; subst hw)
    go_ret
    exact ⟨by show Ending.returned (.bool (decide (e_2 < (ll.length : Int)))) = _; rw [HE.out, HX.out, decide_eq_false (by omega)], hbl _⟩
  · have HX : Hid (inB e_2 0 ((ll.length : Int) - 1) = true) := Hid.intro (inB_t (by omega))
    go_enter Try.func114, Try.ntmps114
    go_wp2_with (go_at_call 67; refine (HW.out _).mono ?_; rintro e w' ⟨rfl, hw⟩; subst hw)
    go_ret
    exact ⟨by rw [HE.out, HX.out]; rfl, hbl _⟩

set_option maxRecDepth 100000 in
set_option maxHeartbeats 4000000 in
theorem trcIsKind_any (m : (Lst (Int × Int × Int × Bool))) (la : Lst Int) (bs os psc : Nat) (psl : List (Lst (Int × Int × Int × Int × Bool × (Lst Int) × (Lst Int)))) (e_0 e_1 e_2 : Int) (w : World) (h : yBusCfg.rd w (m, la, (⟨some ⟨bs, os, none⟩, psc, psl⟩ : Lst (Lst (Int × Int × Int × Int × Bool × (Lst Int) × (Lst Int)))))) (h3 : psl.length = 3) :
    Calls Try.prog 80 #[.agg #[.slice m.p m.l.length m.c, .slice la.p la.l.length la.c, .slice (some ⟨bs, os, none⟩) psl.length psc], .agg #[.int .i64 e_0, .int .i64 e_1, .int .i64 e_2]] w fun e w' => e = .returned (.bool (doesP (yBusCfg.pl (m, la, (⟨some ⟨bs, os, none⟩, psc, psl⟩ : Lst (Lst (Int × Int × Int × Int × Bool × (Lst Int) × (Lst Int)))))) (e_0, e_1, e_2))) ∧ Below w.heap.size w w' := by
  have hbl : ∀ o o', Below w.heap.size w ((w.alloc o).alloc o') := fun o o' => ((Below.refl _ w).alloc (Nat.le_refl _) o).alloc (by simp) o'
  have HA : Hid (∀ W, Below w.heap.size w W → Calls Try.prog 114 #[.agg #[.slice m.p m.l.length m.c, .slice la.p la.l.length la.c, .slice (some ⟨bs, os, none⟩) psl.length psc], .int .i64 e_1, .int .i64 e_2] W fun e w' => e = .returned (.bool (inB e_1 0 2 && inB e_2 0 (lenP (yBusCfg.pl (m, la, (⟨some ⟨bs, os, none⟩, psc, psl⟩ : Lst (Lst (Int × Int × Int × Int × Bool × (Lst Int) × (Lst Int)))))) e_1 - 1))) ∧ Below W.heap.size W w') := Hid.intro (fun W hW => busAsks_any m la bs os psc psl e_1 e_2 W (yBusCfg_law.rd_blw h hW) h3)
  have HD : Hid (doesP (yBusCfg.pl (m, la, (⟨some ⟨bs, os, none⟩, psc, psl⟩ : Lst (Lst (Int × Int × Int × Int × Bool × (Lst Int) × (Lst Int)))))) (e_0, e_1, e_2) = (inB e_0 1 3 && (inB e_1 0 2 && inB e_2 0 (lenP (yBusCfg.pl (m, la, (⟨some ⟨bs, os, none⟩, psc, psl⟩ : Lst (Lst (Int × Int × Int × Int × Bool × (Lst Int) × (Lst Int)))))) e_1 - 1)))) := Hid.intro rfl
  obtain ⟨b, hb⟩ : ∃ b, (inB e_1 0 2 && inB e_2 0 (lenP (yBusCfg.pl (m, la, (⟨some ⟨bs, os, none⟩, psc, psl⟩ : Lst (Lst (Int × Int × Int × Int × Bool × (Lst Int) × (Lst Int)))))) e_1 - 1)) = b := ⟨_, rfl⟩
  rw [hb] at HA HD
  clear h h3 hb
  by_cases h1 : 1 ≤ e_0
  rotate_left
  · have HX : Hid (inB e_0 1 3 = false) := Hid.intro (inB_f (by omega))
    go_enter Try.func80, Try.ntmps80
    go_wp2
    go_ret
    exact ⟨by rw [HD.out, HX.out]; rfl, hbl _ _⟩
  by_cases h2 : e_0 ≤ 3
  rotate_left
  · have HX : Hid (inB e_0 1 3 = false) := Hid.intro (inB_f (by omega))
    go_enter Try.func80, Try.ntmps80
    go_wp2
    go_ret
    exact ⟨by rw [HD.out, HX.out]; rfl, hbl _ _⟩
  have HX : Hid (inB e_0 1 3 = true) := Hid.intro (inB_t (by omega))
  go_enter Try.func80, Try.ntmps80
  go_wp2_with fail
  refine (HA.out _ (hbl _ _)).mono ?_
  rintro e w2 ⟨rfl, hb2⟩
  have hB := (hbl _ _).trans (hb2.mono (hbl _ _).size)
  clear hb2 hbl HA
  go_wp2
  go_ret
  exact ⟨by show Ending.returned (.bool b) = _; rw [HD.out, HX.out, Bool.true_and], hB⟩

set_option maxRecDepth 100000 in
set_option maxHeartbeats 4000000 in
theorem l9Apart_any (m : (Lst (Int × Int × Int × Bool))) (la : Lst Int) (bs os psc : Nat) (psl : List (Lst (Int × Int × Int × Int × Bool × (Lst Int) × (Lst Int)))) (e_0 e_1 e_2 f_0 f_1 f_2 : Int) (w : World) (h : yBusCfg.rd w (m, la, (⟨some ⟨bs, os, none⟩, psc, psl⟩ : Lst (Lst (Int × Int × Int × Int × Bool × (Lst Int) × (Lst Int)))))) (hok : busOkP (yBusCfg.pl (m, la, (⟨some ⟨bs, os, none⟩, psc, psl⟩ : Lst (Lst (Int × Int × Int × Int × Bool × (Lst Int) × (Lst Int)))))) = true) (hd1 : doesP (yBusCfg.pl (m, la, (⟨some ⟨bs, os, none⟩, psc, psl⟩ : Lst (Lst (Int × Int × Int × Int × Bool × (Lst Int) × (Lst Int)))))) (e_0, e_1, e_2) = true) (hd2 : doesP (yBusCfg.pl (m, la, (⟨some ⟨bs, os, none⟩, psc, psl⟩ : Lst (Lst (Int × Int × Int × Int × Bool × (Lst Int) × (Lst Int)))))) (f_0, f_1, f_2) = true) :
    Calls Try.prog 79 #[.agg #[.slice m.p m.l.length m.c, .slice la.p la.l.length la.c, .slice (some ⟨bs, os, none⟩) psl.length psc], .agg #[.int .i64 e_0, .int .i64 e_1, .int .i64 e_2], .agg #[.int .i64 f_0, .int .i64 f_1, .int .i64 f_2]] w fun e w' => e = .returned (.bool (apartP (yBusCfg.pl (m, la, (⟨some ⟨bs, os, none⟩, psc, psl⟩ : Lst (Lst (Int × Int × Int × Int × Bool × (Lst Int) × (Lst Int)))))) (e_0, e_1, e_2) (f_0, f_1, f_2))) ∧ Below w.heap.size w w' := by
  have hbl : ∀ o o' o'', Below w.heap.size w (((w.alloc o).alloc o').alloc o'') := fun o o' o'' => (((Below.refl _ w).alloc (Nat.le_refl _) o).alloc (by simp) o').alloc (by simp <;> omega) o''
  have HD : Hid (apartP (yBusCfg.pl (m, la, (⟨some ⟨bs, os, none⟩, psc, psl⟩ : Lst (Lst (Int × Int × Int × Int × Bool × (Lst Int) × (Lst Int)))))) (e_0, e_1, e_2) (f_0, f_1, f_2) = (!(e_1 == f_1 || (e_0 == 3 && f_0 == 3)) && (!(e_0 == 2) || (!(f_0 == 2) || !meetP (askedP (yBusCfg.pl (m, la, (⟨some ⟨bs, os, none⟩, psc, psl⟩ : Lst (Lst (Int × Int × Int × Int × Bool × (Lst Int) × (Lst Int)))))) e_1 e_2) (askedP (yBusCfg.pl (m, la, (⟨some ⟨bs, os, none⟩, psc, psl⟩ : Lst (Lst (Int × Int × Int × Int × Bool × (Lst Int) × (Lst Int)))))) f_1 f_2))))) := Hid.intro rfl
  by_cases h1 : e_1 = f_1
  · have HX : Hid ((e_1 == f_1) = true) := Hid.intro (by simpa using h1)
    clear h hok hd1 hd2
    subst h1
    go_enter Try.func79, Try.ntmps79
    go_wp2
    go_ret
    exact ⟨by rw [HD.out, HX.out]; rfl, hbl _ _ _⟩
  have hn1 : (e_1 == f_1) = false := by simpa using h1
  have HX1 := Hid.intro hn1
  by_cases h2 : e_0 = 3 ∧ f_0 = 3
  · obtain ⟨rfl, rfl⟩ := h2
    clear h hok hd1 hd2
    go_enter Try.func79, Try.ntmps79
    go_wp2
    go_ret
    exact ⟨by rw [HD.out, HX1.out]; rfl, hbl _ _ _⟩
  have HX2 : Hid ((e_0 == 3 && f_0 == 3) = false) := Hid.intro (by
    cases ha : (e_0 == 3)
    · rfl
    · cases hb : (f_0 == 3)
      · rfl
      · exact absurd ⟨by simpa using ha, by simpa using hb⟩ h2)
  by_cases h3 : e_0 = 2
  rotate_left
  · have HX3 : Hid ((e_0 == 2) = false) := Hid.intro (by simpa using h3)
    have hde : (e_0 != 2) = true := by simpa using h3
    clear h hok hd1 hd2
    by_cases h4 : e_0 = 3
    · have h5 : ¬ f_0 = 3 := fun e => h2 ⟨h4, e⟩
      have hn5 : (f_0 == 3) = false := by simpa using h5
      subst h4
      go_enter Try.func79, Try.ntmps79
      go_wp2_with fail
      go_quiet (fail)
      go_wp2
      go_ret
      exact ⟨by rw [HD.out, HX1.out, HX2.out, HX3.out]; rfl, below_drewN (hbl _ _ _) nq⟩
    · have hn4 : (e_0 == 3) = false := by simpa using h4
      clear h2
      go_enter Try.func79, Try.ntmps79
      go_wp2_with fail
      go_quiet (fail)
      go_wp2
      go_ret
      exact ⟨by rw [HD.out, HX1.out, HX2.out, HX3.out]; rfl, below_drewN (hbl _ _ _) nq⟩
  subst h3
  by_cases h3 : f_0 = 2
  rotate_left
  · have HX3 : Hid ((f_0 == 2) = false) := Hid.intro (by simpa using h3)
    have hde : (f_0 != 2) = true := by simpa using h3
    clear h hok hd1 hd2 h2
    go_enter Try.func79, Try.ntmps79
    go_wp2_with fail
    go_quiet (fail)
    go_wp2
    go_ret
    exact ⟨by rw [HD.out, HX1.out, HX2.out, HX3.out]; rfl, below_drewN (hbl _ _ _) nq⟩
  subst h3
  clear h2
  have hp3 : psl.length = 3 := busOk_three hok
  unfold doesP at hd1 hd2
  simp only [Bool.and_eq_true, inB, decide_eq_true_eq] at hd1 hd2
  obtain ⟨k, rfl⟩ : ∃ k : Nat, e_1 = (k : Int) := ⟨e_1.toNat, by omega⟩
  obtain ⟨n, rfl⟩ : ∃ n : Nat, f_1 = (n : Int) := ⟨f_1.toNat, by omega⟩
  have hkl : k < psl.length := by omega
  have hnl : n < psl.length := by omega
  rw [lenP_at hkl] at hd1
  rw [lenP_at hnl] at hd2
  obtain ⟨i, rfl⟩ : ∃ i : Nat, e_2 = (i : Int) := ⟨e_2.toNat, by omega⟩
  obtain ⟨j, rfl⟩ : ∃ j : Nat, f_2 = (j : Int) := ⟨f_2.toNat, by omega⟩
  have hil : i < psl[k].l.length := by omega
  have hjl : j < psl[n].l.length := by omega
  have HEA := Hid.intro (askedP_at (m := m) (la := la) (bs := bs) (os := os) (psc := psc) hkl hil)
  have HEB := Hid.intro (askedP_at (m := m) (la := la) (bs := bs) (os := os) (psc := psc) hnl hjl)
  obtain ⟨hbs, cK, hrk⟩ := row_of h.2.2 rfl hkl
  obtain ⟨_, cN, hrn⟩ := row_of h.2.2 rfl hnl
  obtain ⟨bk, ok, hpk, _⟩ := reqs_at hrk hil
  obtain ⟨bn, on, hpn, _⟩ := reqs_at hrn hjl
  have hcq := req_of (p := psl[k].p) (cap := psl[k].c) (l := psl[k].l) hrk hpk hil
  have hcr := req_of (p := psl[n].p) (cap := psl[n].c) (l := psl[n].l) hrn hpn hjl
  generalize psl[k].l[i] = q at HEA hcq
  generalize psl[n].l[j] = r at HEB hcr
  generalize psl[k] = pk at cK hpk hil
  generalize psl[n] = pn at cN hpn hjl
  obtain ⟨pkp, ck, lk⟩ := pk
  obtain ⟨pnp, cn, ln⟩ := pn
  simp only at hpk hpn hil hjl cK cN
  subst hpk hpn
  obtain ⟨hbk, hcq, _⟩ := hcq
  obtain ⟨hbn, hcr, _⟩ := hcr
  obtain ⟨q_0, q_1, q_2, q_3, q_4, q_5, q_6⟩ := q
  obtain ⟨r_0, r_1, r_2, r_3, r_4, r_5, r_6⟩ := r
  have cq0 : w.cell? ⟨bk, ok + i * 7, none⟩ = some (.int .i64 q_0) := hcq 0 _ rfl
  have cq1 : w.cell? ⟨bk, ok + i * 7 + 1, none⟩ = some (.int .i64 q_1) := hcq 1 _ rfl
  have cq2 : w.cell? ⟨bk, ok + i * 7 + 2, none⟩ = some (.int .i64 q_2) := hcq 2 _ rfl
  have cq3 : w.cell? ⟨bk, ok + i * 7 + 3, none⟩ = some (.int .i64 q_3) := hcq 3 _ rfl
  have cq4 : w.cell? ⟨bk, ok + i * 7 + 4, none⟩ = some (.bool q_4) := hcq 4 _ rfl
  have cq5 : w.cell? ⟨bk, ok + i * 7 + 5, none⟩ = some (.slice q_5.p q_5.l.length q_5.c) := hcq 5 _ rfl
  have cq6 : w.cell? ⟨bk, ok + i * 7 + 6, none⟩ = some (.slice q_6.p q_6.l.length q_6.c) := hcq 6 _ rfl
  have cr0 : w.cell? ⟨bn, on + j * 7, none⟩ = some (.int .i64 r_0) := hcr 0 _ rfl
  have cr1 : w.cell? ⟨bn, on + j * 7 + 1, none⟩ = some (.int .i64 r_1) := hcr 1 _ rfl
  have cr2 : w.cell? ⟨bn, on + j * 7 + 2, none⟩ = some (.int .i64 r_2) := hcr 2 _ rfl
  have cr3 : w.cell? ⟨bn, on + j * 7 + 3, none⟩ = some (.int .i64 r_3) := hcr 3 _ rfl
  have cr4 : w.cell? ⟨bn, on + j * 7 + 4, none⟩ = some (.bool r_4) := hcr 4 _ rfl
  have cr5 : w.cell? ⟨bn, on + j * 7 + 5, none⟩ = some (.slice r_5.p r_5.l.length r_5.c) := hcr 5 _ rfl
  have cr6 : w.cell? ⟨bn, on + j * 7 + 6, none⟩ = some (.slice r_6.p r_6.l.length r_6.c) := hcr 6 _ rfl
  obtain ⟨mt, hmt⟩ : ∃ b, b = meetP (reqOf (yReqReq.pl (q_0, q_1, q_2, q_3, q_4, q_5, q_6))) (reqOf (yReqReq.pl (r_0, r_1, r_2, r_3, r_4, r_5, r_6))) := ⟨_, rfl⟩
  have HMT : Hid (∀ W : World, Calls Try.prog 113 #[.agg #[.int .i64 q_0, .int .i64 q_1, .int .i64 q_2, .int .i64 q_3, .bool q_4, .slice q_5.p q_5.l.length q_5.c, .slice q_6.p q_6.l.length q_6.c], .agg #[.int .i64 r_0, .int .i64 r_1, .int .i64 r_2, .int .i64 r_3, .bool r_4, .slice r_5.p r_5.l.length r_5.c, .slice r_6.p r_6.l.length r_6.c]] W fun e w' => e = .returned (.bool mt) ∧ Below W.heap.size W w') := Hid.intro (fun W => by rw [hmt]; exact l9Meet_any (q_0, q_1, q_2, q_3, q_4, q_5, q_6) (r_0, r_1, r_2, r_3, r_4, r_5, r_6) W)
  have HF : Hid (apartP (yBusCfg.pl (m, la, (⟨some ⟨bs, os, none⟩, psc, psl⟩ : Lst (Lst (Int × Int × Int × Int × Bool × (Lst Int) × (Lst Int)))))) (2, (k : Int), (i : Int)) (2, (n : Int), (j : Int)) = !mt) := Hid.intro (by rw [HD.out, HX1.out, HEA.out, HEB.out, ← hmt]; simp)
  clear hcq hcr hmt HD HEA HEB hrk hrn h hok hd1 hd2 HX2 hp3
  go_enter Try.func79, Try.ntmps79
  go_wp2_with fail
  obtain ⟨W0, hW0⟩ : ∃ W0, ((w.alloc (.cells #[.slice m.p m.l.length m.c, .slice la.p la.l.length la.c, .slice (some ⟨bs, os, none⟩) psl.length psc] 32)).alloc (.cells #[.int .i64 2, .int .i64 (k : Int), .int .i64 (i : Int)] 61)).alloc (.cells #[.int .i64 2, .int .i64 (n : Int), .int .i64 (j : Int)] 61) = W0 := ⟨_, rfl⟩
  have b0 : Below w.heap.size w W0 := by rw [← hW0]; exact hbl _ _ _
  have bC : W0.heap[w.heap.size]? = some (.cells #[.slice m.p m.l.length m.c, .slice la.p la.l.length la.c, .slice (some ⟨bs, os, none⟩) psl.length psc] 32 (0, 0)) := by rw [← hW0]; exact (Below.heap_alloc _ _ _ (by simp <;> omega)).trans ((Below.heap_alloc _ _ _ (by simp)).trans (nw_k _ rfl))
  have bA : W0.heap[w.heap.size + 1]? = some (.cells #[.int .i64 2, .int .i64 (k : Int), .int .i64 (i : Int)] 61 (0, 0)) := by rw [← hW0]; exact (Below.heap_alloc _ _ _ (by simp)).trans (nw_k _ (by simp))
  have bB : W0.heap[w.heap.size + 1 + 1]? = some (.cells #[.int .i64 2, .int .i64 (n : Int), .int .i64 (j : Int)] 61 (0, 0)) := by rw [← hW0]; exact nw_k _ (by simp)
  rw [hW0]
  obtain ⟨AB, hAB⟩ : ∃ A, A = w.heap.size + 1 + 1 := ⟨_, rfl⟩
  rw [← hAB] at bB ⊢
  obtain ⟨AA, hAA⟩ : ∃ A, A = w.heap.size + 1 := ⟨_, rfl⟩
  rw [← hAA] at bA ⊢
  obtain ⟨AC, hAC⟩ : ∃ A, A = w.heap.size := ⟨_, rfl⟩
  rw [← hAC] at bC ⊢
  clear hAB hAA hAC hW0 hbl
  have HB0 := Hid.intro b0
  have cC0 : W0.cell? ⟨AC, 0, none⟩ = some (.slice m.p m.l.length m.c) := heap_cell bC 0
  have cC1 : W0.cell? ⟨AC, 1, none⟩ = some (.slice la.p la.l.length la.c) := heap_cell bC 1
  have cC2 : W0.cell? ⟨AC, 2, none⟩ = some (.slice (some ⟨bs, os, none⟩) psl.length psc) := heap_cell bC 2
  have cA0 : W0.cell? ⟨AA, 0, none⟩ = some (.int .i64 2) := heap_cell bA 0
  have cA1 : W0.cell? ⟨AA, 1, none⟩ = some (.int .i64 (k : Int)) := heap_cell bA 1
  have cA2 : W0.cell? ⟨AA, 2, none⟩ = some (.int .i64 (i : Int)) := heap_cell bA 2
  have cB0 : W0.cell? ⟨AB, 0, none⟩ = some (.int .i64 2) := heap_cell bB 0
  have cB1 : W0.cell? ⟨AB, 1, none⟩ = some (.int .i64 (n : Int)) := heap_cell bB 1
  have cB2 : W0.cell? ⟨AB, 2, none⟩ = some (.int .i64 (j : Int)) := heap_cell bB 2
  have hlC := heap_lt bC
  have hlA := heap_lt bA
  have hlB := heap_lt bB
  replace cK := (b0.cell (p := ⟨bs, os + k, none⟩) hbs).trans cK
  replace cN := (b0.cell (p := ⟨bs, os + n, none⟩) hbs).trans cN
  replace cq0 := (b0.cell (p := ⟨bk, ok + i * 7, none⟩) hbk).trans cq0
  replace cq1 := (b0.cell (p := ⟨bk, ok + i * 7 + 1, none⟩) hbk).trans cq1
  replace cq2 := (b0.cell (p := ⟨bk, ok + i * 7 + 2, none⟩) hbk).trans cq2
  replace cq3 := (b0.cell (p := ⟨bk, ok + i * 7 + 3, none⟩) hbk).trans cq3
  replace cq4 := (b0.cell (p := ⟨bk, ok + i * 7 + 4, none⟩) hbk).trans cq4
  replace cq5 := (b0.cell (p := ⟨bk, ok + i * 7 + 5, none⟩) hbk).trans cq5
  replace cq6 := (b0.cell (p := ⟨bk, ok + i * 7 + 6, none⟩) hbk).trans cq6
  replace cr0 := (b0.cell (p := ⟨bn, on + j * 7, none⟩) hbn).trans cr0
  replace cr1 := (b0.cell (p := ⟨bn, on + j * 7 + 1, none⟩) hbn).trans cr1
  replace cr2 := (b0.cell (p := ⟨bn, on + j * 7 + 2, none⟩) hbn).trans cr2
  replace cr3 := (b0.cell (p := ⟨bn, on + j * 7 + 3, none⟩) hbn).trans cr3
  replace cr4 := (b0.cell (p := ⟨bn, on + j * 7 + 4, none⟩) hbn).trans cr4
  replace cr5 := (b0.cell (p := ⟨bn, on + j * 7 + 5, none⟩) hbn).trans cr5
  replace cr6 := (b0.cell (p := ⟨bn, on + j * 7 + 6, none⟩) hbn).trans cr6
  replace hbs := Nat.lt_of_lt_of_le hbs b0.size
  replace hbk := Nat.lt_of_lt_of_le hbk b0.size
  replace hbn := Nat.lt_of_lt_of_le hbn b0.size
  clear bC bA bB b0
  go_wp2_with fail
  refine wp_region_typed (by kernel_rfl) Gr (fun _ W => Below W0.heap.size W0 W)
    (tab [(22, kIs (.pointer (some ⟨AA, 0, none⟩))), (23, kIs (.int .i64 2)), (24, kIs (.bool false)), (25, kIs (.bool false)), (26, kIs (.pointer (some ⟨AB, 0, none⟩))), (27, kIs (.int .i64 2)), (28, kIs (.bool false)), (29, kIs (.bool false)), (30, kIs (.bool false)), (31, kIs (.pointer (some ⟨AC, 2, none⟩))), (32, kIs (.slice (some ⟨bs, os, none⟩) psl.length psc)), (33, kIs (.pointer (some ⟨AA, 1, none⟩))), (34, kIs (.int .i64 (k : Int))), (35, kIs (.pointer (some ⟨bs, os + k, none⟩))), (36, kIs (.slice (some ⟨bk, ok, none⟩) lk.length ck)), (37, kIs (.pointer (some ⟨AA, 2, none⟩))), (38, kIs (.int .i64 (i : Int))), (39, kIs (.pointer (some ⟨bk, ok + i * 7, none⟩))), (40, kIs (.agg #[.int .i64 q_0, .int .i64 q_1, .int .i64 q_2, .int .i64 q_3, .bool q_4, .slice q_5.p q_5.l.length q_5.c, .slice q_6.p q_6.l.length q_6.c])), (41, kIs (.pointer (some ⟨AC, 2, none⟩))), (42, kIs (.slice (some ⟨bs, os, none⟩) psl.length psc)), (43, kIs (.pointer (some ⟨AB, 1, none⟩))), (44, kIs (.int .i64 (n : Int))), (45, kIs (.pointer (some ⟨bs, os + n, none⟩))), (46, kIs (.slice (some ⟨bn, on, none⟩) ln.length cn)), (47, kIs (.pointer (some ⟨AB, 2, none⟩))), (48, kIs (.int .i64 (j : Int))), (49, kIs (.pointer (some ⟨bn, on + j * 7, none⟩))), (50, kIs (.agg #[.int .i64 r_0, .int .i64 r_1, .int .i64 r_2, .int .i64 r_3, .bool r_4, .slice r_5.p r_5.l.length r_5.c, .slice r_6.p r_6.l.length r_6.c])), (51, kIs (.bool mt)), (52, kIs (.bool (!mt))), (53, kIs (.bool (!mt))), (6, kIs (.bool (!mt)))])
    [22, 23, 24, 25, 26, 27, 28, 29, 30, 31, 32, 33, 34, 35, 36, 37, 38, 39, 40, 41, 42, 43, 44, 45, 46, 47, 48, 49, 50, 51, 52, 53, 6] (by kernel_rfl) (by kernel_rfl) ?_ ?_ ?_ ?_
  · refine tabR_stable ?_
    intro x hx
    simp only [List.mem_cons, List.not_mem_nil, or_false] at hx
    rcases hx with rfl | rfl | rfl | rfl | rfl | rfl | rfl | rfl | rfl | rfl | rfl | rfl | rfl | rfl | rfl | rfl | rfl | rfl | rfl | rfl | rfl | rfl | rfl | rfl | rfl | rfl | rfl | rfl | rfl | rfl | rfl | rfl | rfl
    all_goals intro w w' v hr hv
    all_goals first | exact hv
  · exact (Below.refl _ _).drew
  · refine ops_cons (gd rfl <| tx_pure rfl rfl (fun _ _ h => h) Gr.refl (fun ix ρ W hat hW => ?_)) ?_
    · have e0 := hat.out 4 (by kernel_rfl)
      simp [Act.eval] at e0
      simp only [execOp, e0]; go_simp
    refine ops_cons (gd rfl <| tx_pure rfl rfl (fun _ _ h => h) Gr.refl (fun ix ρ W hat hW => ?_)) ?_
    · have e0 : ρ (.tmp 22) = _ := hat.dep 22 (by kernel_rfl)
      have c0 : W.cell? ⟨AA, 0, none⟩ = some (.int .i64 2) := (hW.cell (p := ⟨AA, 0, none⟩) hlA).trans cA0
      simp only [execOp, e0]; go_simp
    refine ops_cons (gd rfl <| tx_pure rfl rfl (fun _ _ h => h) Gr.refl (fun ix ρ W hat hW => ?_)) ?_
    · have hc := hat.con
      have e0 : ρ (.tmp 23) = _ := hat.dep 23 (by kernel_rfl)
      simp only [execOp, e0]; go_simp
    refine ops_cons (gd rfl <| tx_pure rfl rfl (fun _ _ h => h) Gr.refl (fun ix ρ W hat hW => ?_)) ?_
    · have e0 : ρ (.tmp 24) = _ := hat.dep 24 (by kernel_rfl)
      simp only [execOp, e0]; go_simp
    refine ops_cons (gdG 3 false rfl _ rfl 25 rfl rfl (by kernel_rfl) <| tx_pure rfl rfl (fun _ _ h => h) Gr.refl (fun ix ρ W hat hW => ?_)) ?_
    · have e0 := hat.out 5 (by kernel_rfl)
      simp [Act.eval] at e0
      simp only [execOp, e0]; go_simp
    refine ops_cons (gdG 3 false rfl _ rfl 25 rfl rfl (by kernel_rfl) <| tx_pure rfl rfl (fun _ _ h => h) Gr.refl (fun ix ρ W hat hW => ?_)) ?_
    · have e0 : ρ (.tmp 26) = _ := hat.dep 26 (by kernel_rfl)
      have c0 : W.cell? ⟨AB, 0, none⟩ = some (.int .i64 2) := (hW.cell (p := ⟨AB, 0, none⟩) hlB).trans cB0
      simp only [execOp, e0]; go_simp
    refine ops_cons (gdG 3 false rfl _ rfl 25 rfl rfl (by kernel_rfl) <| tx_pure rfl rfl (fun _ _ h => h) Gr.refl (fun ix ρ W hat hW => ?_)) ?_
    · have hc := hat.con
      have e0 : ρ (.tmp 27) = _ := hat.dep 27 (by kernel_rfl)
      simp only [execOp, e0]; go_simp
    refine ops_cons (gd rfl <| tx_pure rfl rfl (fun _ _ h => h) Gr.refl (fun ix ρ W hat hW => ?_)) ?_
    · have hc := hat.con
      have e0 : ρ (.tmp 25) = _ := hat.dep 25 (by kernel_rfl)
      have e1 : ρ (.tmp 28) = _ := hat.dep 28 (by kernel_rfl)
      simp only [execOp, e0, e1]; go_simp
    refine ops_cons (gd rfl <| tx_pure rfl rfl (fun _ _ h => h) Gr.refl (fun ix ρ W hat hW => ?_)) ?_
    · have e0 : ρ (.tmp 29) = _ := hat.dep 29 (by kernel_rfl)
      simp only [execOp, e0]; go_simp
    refine ops_cons (gdG 8 false rfl _ rfl 30 rfl rfl (by kernel_rfl) <| tx_pure rfl rfl (fun _ _ h => h) Gr.refl (fun ix ρ W hat hW => ?_)) ?_
    · have e0 := hat.out 3 (by kernel_rfl)
      simp [Act.eval] at e0
      simp only [execOp, e0]; go_simp
    refine ops_cons (gdG 8 false rfl _ rfl 30 rfl rfl (by kernel_rfl) <| tx_pure rfl rfl (fun _ _ h => h) Gr.refl (fun ix ρ W hat hW => ?_)) ?_
    · have e0 : ρ (.tmp 31) = _ := hat.dep 31 (by kernel_rfl)
      have c0 : W.cell? ⟨AC, 2, none⟩ = some (.slice (some ⟨bs, os, none⟩) psl.length psc) := (hW.cell (p := ⟨AC, 2, none⟩) hlC).trans cC2
      simp only [execOp, e0]; go_simp
    refine ops_cons (gdG 8 false rfl _ rfl 30 rfl rfl (by kernel_rfl) <| tx_pure rfl rfl (fun _ _ h => h) Gr.refl (fun ix ρ W hat hW => ?_)) ?_
    · have e0 := hat.out 4 (by kernel_rfl)
      simp [Act.eval] at e0
      simp only [execOp, e0]; go_simp
    refine ops_cons (gdG 8 false rfl _ rfl 30 rfl rfl (by kernel_rfl) <| tx_pure rfl rfl (fun _ _ h => h) Gr.refl (fun ix ρ W hat hW => ?_)) ?_
    · have e0 : ρ (.tmp 33) = _ := hat.dep 33 (by kernel_rfl)
      have c0 : W.cell? ⟨AA, 1, none⟩ = some (.int .i64 (k : Int)) := (hW.cell (p := ⟨AA, 1, none⟩) hlA).trans cA1
      simp only [execOp, e0]; go_simp
    refine ops_cons (gdG 8 false rfl _ rfl 30 rfl rfl (by kernel_rfl) <| tx_pure rfl rfl (fun _ _ h => h) Gr.refl (fun ix ρ W hat hW => ?_)) ?_
    · have e0 : ρ (.tmp 32) = _ := hat.dep 32 (by kernel_rfl)
      have e1 : ρ (.tmp 34) = _ := hat.dep 34 (by kernel_rfl)
      have u0 : (0 : Int) ≤ (k : Int) := by omega
      have u1 : (k : Int) < (psl.length : Int) := by omega
      simp only [execOp, e0, e1]; go_simp
    refine ops_cons (gdG 8 false rfl _ rfl 30 rfl rfl (by kernel_rfl) <| tx_pure rfl rfl (fun _ _ h => h) Gr.refl (fun ix ρ W hat hW => ?_)) ?_
    · have e0 : ρ (.tmp 35) = _ := hat.dep 35 (by kernel_rfl)
      have c0 : W.cell? ⟨bs, os + k, none⟩ = some (.slice (some ⟨bk, ok, none⟩) lk.length ck) := (hW.cell (p := ⟨bs, os + k, none⟩) hbs).trans cK
      simp only [execOp, e0]; go_simp
    refine ops_cons (gdG 8 false rfl _ rfl 30 rfl rfl (by kernel_rfl) <| tx_pure rfl rfl (fun _ _ h => h) Gr.refl (fun ix ρ W hat hW => ?_)) ?_
    · have e0 := hat.out 4 (by kernel_rfl)
      simp [Act.eval] at e0
      simp only [execOp, e0]; go_simp
    refine ops_cons (gdG 8 false rfl _ rfl 30 rfl rfl (by kernel_rfl) <| tx_pure rfl rfl (fun _ _ h => h) Gr.refl (fun ix ρ W hat hW => ?_)) ?_
    · have e0 : ρ (.tmp 37) = _ := hat.dep 37 (by kernel_rfl)
      have c0 : W.cell? ⟨AA, 2, none⟩ = some (.int .i64 (i : Int)) := (hW.cell (p := ⟨AA, 2, none⟩) hlA).trans cA2
      simp only [execOp, e0]; go_simp
    refine ops_cons (gdG 8 false rfl _ rfl 30 rfl rfl (by kernel_rfl) <| tx_pure rfl rfl (fun _ _ h => h) Gr.refl (fun ix ρ W hat hW => ?_)) ?_
    · have e0 : ρ (.tmp 36) = _ := hat.dep 36 (by kernel_rfl)
      have e1 : ρ (.tmp 38) = _ := hat.dep 38 (by kernel_rfl)
      have u0 : (0 : Int) ≤ (i : Int) := by omega
      have u1 : (i : Int) < (lk.length : Int) := by omega
      simp only [execOp, e0, e1]; go_simp
    refine ops_cons (gdG 8 false rfl _ rfl 30 rfl rfl (by kernel_rfl) <| tx_pure rfl rfl (fun _ _ h => h) Gr.refl (fun ix ρ W hat hW => ?_)) ?_
    · have e0 : ρ (.tmp 39) = _ := hat.dep 39 (by kernel_rfl)
      have c0 : W.cell? ⟨bk, ok + i * 7, none⟩ = some (.int .i64 q_0) := (hW.cell (p := ⟨bk, ok + i * 7, none⟩) hbk).trans cq0
      have c1 : W.cell? ⟨bk, ok + i * 7 + 1, none⟩ = some (.int .i64 q_1) := (hW.cell (p := ⟨bk, ok + i * 7 + 1, none⟩) hbk).trans cq1
      have c2 : W.cell? ⟨bk, ok + i * 7 + 2, none⟩ = some (.int .i64 q_2) := (hW.cell (p := ⟨bk, ok + i * 7 + 2, none⟩) hbk).trans cq2
      have c3 : W.cell? ⟨bk, ok + i * 7 + 3, none⟩ = some (.int .i64 q_3) := (hW.cell (p := ⟨bk, ok + i * 7 + 3, none⟩) hbk).trans cq3
      have c4 : W.cell? ⟨bk, ok + i * 7 + 4, none⟩ = some (.bool q_4) := (hW.cell (p := ⟨bk, ok + i * 7 + 4, none⟩) hbk).trans cq4
      have c5 : W.cell? ⟨bk, ok + i * 7 + 5, none⟩ = some (.slice q_5.p q_5.l.length q_5.c) := (hW.cell (p := ⟨bk, ok + i * 7 + 5, none⟩) hbk).trans cq5
      have c6 : W.cell? ⟨bk, ok + i * 7 + 6, none⟩ = some (.slice q_6.p q_6.l.length q_6.c) := (hW.cell (p := ⟨bk, ok + i * 7 + 6, none⟩) hbk).trans cq6
      simp only [execOp, e0]; go_simp
    refine ops_cons (gdG 8 false rfl _ rfl 30 rfl rfl (by kernel_rfl) <| tx_pure rfl rfl (fun _ _ h => h) Gr.refl (fun ix ρ W hat hW => ?_)) ?_
    · have e0 := hat.out 3 (by kernel_rfl)
      simp [Act.eval] at e0
      simp only [execOp, e0]; go_simp
    refine ops_cons (gdG 8 false rfl _ rfl 30 rfl rfl (by kernel_rfl) <| tx_pure rfl rfl (fun _ _ h => h) Gr.refl (fun ix ρ W hat hW => ?_)) ?_
    · have e0 : ρ (.tmp 41) = _ := hat.dep 41 (by kernel_rfl)
      have c0 : W.cell? ⟨AC, 2, none⟩ = some (.slice (some ⟨bs, os, none⟩) psl.length psc) := (hW.cell (p := ⟨AC, 2, none⟩) hlC).trans cC2
      simp only [execOp, e0]; go_simp
    refine ops_cons (gdG 8 false rfl _ rfl 30 rfl rfl (by kernel_rfl) <| tx_pure rfl rfl (fun _ _ h => h) Gr.refl (fun ix ρ W hat hW => ?_)) ?_
    · have e0 := hat.out 5 (by kernel_rfl)
      simp [Act.eval] at e0
      simp only [execOp, e0]; go_simp
    refine ops_cons (gdG 8 false rfl _ rfl 30 rfl rfl (by kernel_rfl) <| tx_pure rfl rfl (fun _ _ h => h) Gr.refl (fun ix ρ W hat hW => ?_)) ?_
    · have e0 : ρ (.tmp 43) = _ := hat.dep 43 (by kernel_rfl)
      have c0 : W.cell? ⟨AB, 1, none⟩ = some (.int .i64 (n : Int)) := (hW.cell (p := ⟨AB, 1, none⟩) hlB).trans cB1
      simp only [execOp, e0]; go_simp
    refine ops_cons (gdG 8 false rfl _ rfl 30 rfl rfl (by kernel_rfl) <| tx_pure rfl rfl (fun _ _ h => h) Gr.refl (fun ix ρ W hat hW => ?_)) ?_
    · have e0 : ρ (.tmp 42) = _ := hat.dep 42 (by kernel_rfl)
      have e1 : ρ (.tmp 44) = _ := hat.dep 44 (by kernel_rfl)
      have u0 : (0 : Int) ≤ (n : Int) := by omega
      have u1 : (n : Int) < (psl.length : Int) := by omega
      simp only [execOp, e0, e1]; go_simp
    refine ops_cons (gdG 8 false rfl _ rfl 30 rfl rfl (by kernel_rfl) <| tx_pure rfl rfl (fun _ _ h => h) Gr.refl (fun ix ρ W hat hW => ?_)) ?_
    · have e0 : ρ (.tmp 45) = _ := hat.dep 45 (by kernel_rfl)
      have c0 : W.cell? ⟨bs, os + n, none⟩ = some (.slice (some ⟨bn, on, none⟩) ln.length cn) := (hW.cell (p := ⟨bs, os + n, none⟩) hbs).trans cN
      simp only [execOp, e0]; go_simp
    refine ops_cons (gdG 8 false rfl _ rfl 30 rfl rfl (by kernel_rfl) <| tx_pure rfl rfl (fun _ _ h => h) Gr.refl (fun ix ρ W hat hW => ?_)) ?_
    · have e0 := hat.out 5 (by kernel_rfl)
      simp [Act.eval] at e0
      simp only [execOp, e0]; go_simp
    refine ops_cons (gdG 8 false rfl _ rfl 30 rfl rfl (by kernel_rfl) <| tx_pure rfl rfl (fun _ _ h => h) Gr.refl (fun ix ρ W hat hW => ?_)) ?_
    · have e0 : ρ (.tmp 47) = _ := hat.dep 47 (by kernel_rfl)
      have c0 : W.cell? ⟨AB, 2, none⟩ = some (.int .i64 (j : Int)) := (hW.cell (p := ⟨AB, 2, none⟩) hlB).trans cB2
      simp only [execOp, e0]; go_simp
    refine ops_cons (gdG 8 false rfl _ rfl 30 rfl rfl (by kernel_rfl) <| tx_pure rfl rfl (fun _ _ h => h) Gr.refl (fun ix ρ W hat hW => ?_)) ?_
    · have e0 : ρ (.tmp 46) = _ := hat.dep 46 (by kernel_rfl)
      have e1 : ρ (.tmp 48) = _ := hat.dep 48 (by kernel_rfl)
      have u0 : (0 : Int) ≤ (j : Int) := by omega
      have u1 : (j : Int) < (ln.length : Int) := by omega
      simp only [execOp, e0, e1]; go_simp
    refine ops_cons (gdG 8 false rfl _ rfl 30 rfl rfl (by kernel_rfl) <| tx_pure rfl rfl (fun _ _ h => h) Gr.refl (fun ix ρ W hat hW => ?_)) ?_
    · have e0 : ρ (.tmp 49) = _ := hat.dep 49 (by kernel_rfl)
      have c0 : W.cell? ⟨bn, on + j * 7, none⟩ = some (.int .i64 r_0) := (hW.cell (p := ⟨bn, on + j * 7, none⟩) hbn).trans cr0
      have c1 : W.cell? ⟨bn, on + j * 7 + 1, none⟩ = some (.int .i64 r_1) := (hW.cell (p := ⟨bn, on + j * 7 + 1, none⟩) hbn).trans cr1
      have c2 : W.cell? ⟨bn, on + j * 7 + 2, none⟩ = some (.int .i64 r_2) := (hW.cell (p := ⟨bn, on + j * 7 + 2, none⟩) hbn).trans cr2
      have c3 : W.cell? ⟨bn, on + j * 7 + 3, none⟩ = some (.int .i64 r_3) := (hW.cell (p := ⟨bn, on + j * 7 + 3, none⟩) hbn).trans cr3
      have c4 : W.cell? ⟨bn, on + j * 7 + 4, none⟩ = some (.bool r_4) := (hW.cell (p := ⟨bn, on + j * 7 + 4, none⟩) hbn).trans cr4
      have c5 : W.cell? ⟨bn, on + j * 7 + 5, none⟩ = some (.slice r_5.p r_5.l.length r_5.c) := (hW.cell (p := ⟨bn, on + j * 7 + 5, none⟩) hbn).trans cr5
      have c6 : W.cell? ⟨bn, on + j * 7 + 6, none⟩ = some (.slice r_6.p r_6.l.length r_6.c) := (hW.cell (p := ⟨bn, on + j * 7 + 6, none⟩) hbn).trans cr6
      simp only [execOp, e0]; go_simp
    refine ops_cons (gdG 8 false rfl _ rfl 30 rfl rfl (by kernel_rfl) <| tx_call rfl (fun ix ρ W _ hat hW => ?_)) ?_
    · have hf := hat.fn
      have e0 : ρ (.tmp 40) = _ := hat.dep 40 (by kernel_rfl)
      have e1 : ρ (.tmp 50) = _ := hat.dep 50 (by kernel_rfl)
      refine ⟨113, #[.agg #[.int .i64 q_0, .int .i64 q_1, .int .i64 q_2, .int .i64 q_3, .bool q_4, .slice q_5.p q_5.l.length q_5.c, .slice q_6.p q_6.l.length q_6.c], .agg #[.int .i64 r_0, .int .i64 r_1, .int .i64 r_2, .int .i64 r_3, .bool r_4, .slice r_5.p r_5.l.length r_5.c, .slice r_6.p r_6.l.length r_6.c]], by simp only [execOp]; go_simp, ?_⟩
      refine (HMT.out W).mono ?_
      rintro e W' ⟨rfl, hb⟩
      exact ⟨_, rfl, hW.trans (hb.mono hW.size), hb, rfl⟩
    refine ops_cons (gdG 8 false rfl _ rfl 30 rfl rfl (by kernel_rfl) <| tx_pure rfl rfl (fun _ _ h => h) Gr.refl (fun ix ρ W hat hW => ?_)) ?_
    · have hc := hat.con
      have e0 : ρ (.tmp 51) = _ := hat.dep 51 (by kernel_rfl)
      simp only [execOp, e0]; go_simp
    refine ops_cons (gd rfl <| tx_pure rfl rfl (fun _ _ h => h) Gr.refl (fun ix ρ W hat hW => ?_)) ?_
    · have hc := hat.con
      have e0 : ρ (.tmp 30) = _ := hat.dep 30 (by kernel_rfl)
      have e1 : ρ (.tmp 52) = _ := hat.dep 52 (by kernel_rfl)
      simp only [execOp, e0, e1]; go_simp
    refine ops_cons (gd rfl <| tx_pure rfl rfl (fun _ _ h => h) Gr.refl (fun ix ρ W hat hW => ?_)) ?_
    · have e0 : ρ (.tmp 53) = _ := hat.dep 53 (by kernel_rfl)
      simp only [execOp, e0]; go_simp
    exact ops_nil
  intro f w9 hb hf
  have ee6 : f 6 = .bool (!mt) := hf 6 (by simp)
  clear hf
  simp only [fill, ee6]
  go_simp
  clear ee6
  clear cK cN cC0 cC1 cC2 cA0 cA1 cA2 cB0 cB1 cB2 cq0 cq1 cq2 cq3 cq4 cq5 cq6 cr0 cr1 cr2 cr3 cr4 cr5 cr6
  go_wp2
  go_ret
  exact ⟨by rw [HF.out]; rfl, HB0.out.trans (hb.mono HB0.out.size)⟩

set_option maxRecDepth 100000 in
set_option maxHeartbeats 4000000 in
theorem spec_TrcApart (c : ((Lst (Int × Int × Int × Bool)) × (Lst Int) × (Lst (Lst (Int × Int × Int × Int × Bool × (Lst Int) × (Lst Int)))))) (a b : Int × Int × Int) (w : World) (h : yBusCfg.rd w c) :
    Calls Try.prog 25 #[yBusCfg.val c, yTlmEvent.val a, yTlmEvent.val b] w fun e w' => e = .returned (.bool (trcApartP (yBusCfg.pl c) a b)) ∧ Below w.heap.size w w' := by
  obtain ⟨m, la, ps⟩ := c
  obtain ⟨e_0, e_1, e_2⟩ := a
  obtain ⟨f_0, f_1, f_2⟩ := b
  have hbl : ∀ o o' o'', Below w.heap.size w (((w.alloc o).alloc o').alloc o'') := fun o o' o'' => (((Below.refl _ w).alloc (Nat.le_refl _) o).alloc (by simp) o').alloc (by simp <;> omega) o''
  have HR := Hid.intro h
  obtain ⟨z, hz⟩ : ∃ z, z = yBusCfg.pl (m, la, ps) := ⟨_, rfl⟩
  have HBO : Hid (∀ W, Below w.heap.size w W → Calls Try.prog 10 #[.agg #[.slice m.p m.l.length m.c, .slice la.p la.l.length la.c, .slice ps.p ps.l.length ps.c]] W fun e w' => e = .returned (.bool (busOkP z)) ∧ Below W.heap.size W w') := Hid.intro (fun W hW => by rw [hz]; exact spec_BusOk (m, la, ps) W (yBusCfg_law.rd_blw h hW))
  have HZ := Hid.intro hz
  rw [← hz]
  clear h hz
  show Calls Try.prog 25 #[.agg #[.slice m.p m.l.length m.c, .slice la.p la.l.length la.c, .slice ps.p ps.l.length ps.c], .agg #[.int .i64 e_0, .int .i64 e_1, .int .i64 e_2], .agg #[.int .i64 f_0, .int .i64 f_1, .int .i64 f_2]] w _
  go_enter Try.func25, Try.ntmps25
  go_wp2_with fail
  refine (HBO.out _ (hbl _ _ _)).mono ?_
  rintro e w1 ⟨rfl, hb⟩
  have bel : Below w.heap.size w w1 := (hbl _ _ _).trans (hb.mono (hbl _ _ _).size)
  have bC : w1.heap[w.heap.size]? = some (.cells #[.slice m.p m.l.length m.c, .slice la.p la.l.length la.c, .slice ps.p ps.l.length ps.c] 32 (0, 0)) := (hb.block _ (by simp <;> omega)).trans ((Below.heap_alloc _ _ _ (by simp <;> omega)).trans ((Below.heap_alloc _ _ _ (by simp)).trans (nw_k _ rfl)))
  have bA : w1.heap[w.heap.size + 1]? = some (.cells #[.int .i64 e_0, .int .i64 e_1, .int .i64 e_2] 61 (0, 0)) := (hb.block _ (by simp <;> omega)).trans ((Below.heap_alloc _ _ _ (by simp)).trans (nw_k _ (by simp)))
  have bB : w1.heap[w.heap.size + 1 + 1]? = some (.cells #[.int .i64 f_0, .int .i64 f_1, .int .i64 f_2] 61 (0, 0)) := (hb.block _ (by simp)).trans (nw_k _ (by simp))
  have BEL := Hid.intro bel
  clear hb HBO hbl
  cases hok : busOkP z
  · have HE : Hid (trcApartP z (e_0, e_1, e_2) (f_0, f_1, f_2) = false) := Hid.intro (by unfold trcApartP; rw [hok]; rfl)
    clear bC bA bB
    go_wp2
    go_ret
    exact ⟨by rw [HE.out]; rfl, BEL.out⟩
  have H30 : ps.l.length = 3 := by rw [HZ.out] at hok; exact busOk_three hok
  obtain ⟨bs, os, hp⟩ : ∃ bs os, ps.p = some ⟨bs, os, none⟩ := rows_at (yBusCfg_law.rd_blw HR.out bel).2.2 H30
  obtain ⟨psp, psc, psl⟩ := ps
  simp only at hp bC H30
  subst hp
  obtain ⟨d1, hd1⟩ : ∃ b, doesP z (e_0, e_1, e_2) = b := ⟨_, rfl⟩
  obtain ⟨d2, hd2⟩ : ∃ b, doesP z (f_0, f_1, f_2) = b := ⟨_, rfl⟩
  have HDA : Hid (∀ W, Below w1.heap.size w1 W → Calls Try.prog 78 #[.agg #[.slice m.p m.l.length m.c, .slice la.p la.l.length la.c, .slice (some ⟨bs, os, none⟩) psl.length psc], .agg #[.int .i64 e_0, .int .i64 e_1, .int .i64 e_2]] W fun e w' => e = .returned (.bool d1) ∧ Below W.heap.size W w') := Hid.intro (fun W hW => by
    rw [← hd1, HZ.out]; exact l9Does_any m la bs os psc psl e_0 e_1 e_2 W (yBusCfg_law.rd_blw HR.out (bel.trans (hW.mono bel.size))) H30)
  have HDB : Hid (∀ W, Below w1.heap.size w1 W → Calls Try.prog 78 #[.agg #[.slice m.p m.l.length m.c, .slice la.p la.l.length la.c, .slice (some ⟨bs, os, none⟩) psl.length psc], .agg #[.int .i64 f_0, .int .i64 f_1, .int .i64 f_2]] W fun e w' => e = .returned (.bool d2) ∧ Below W.heap.size W w') := Hid.intro (fun W hW => by
    rw [← hd2, HZ.out]; exact l9Does_any m la bs os psc psl f_0 f_1 f_2 W (yBusCfg_law.rd_blw HR.out (bel.trans (hW.mono bel.size))) H30)
  have HAP : Hid (d1 = true → d2 = true → ∀ W, Below w1.heap.size w1 W → Calls Try.prog 79 #[.agg #[.slice m.p m.l.length m.c, .slice la.p la.l.length la.c, .slice (some ⟨bs, os, none⟩) psl.length psc], .agg #[.int .i64 e_0, .int .i64 e_1, .int .i64 e_2], .agg #[.int .i64 f_0, .int .i64 f_1, .int .i64 f_2]] W fun e w' => e = .returned (.bool (apartP z (e_0, e_1, e_2) (f_0, f_1, f_2))) ∧ Below W.heap.size W w') := Hid.intro (fun g1 g2 W hW => by
    rw [HZ.out] at hok hd1 hd2 ⊢
    exact l9Apart_any m la bs os psc psl e_0 e_1 e_2 f_0 f_1 f_2 W (yBusCfg_law.rd_blw HR.out (bel.trans (hW.mono bel.size))) hok (hd1.trans g1) (hd2.trans g2))
  have HT : Hid (trcApartP z (e_0, e_1, e_2) (f_0, f_1, f_2) = (d1 && (d2 && apartP z (e_0, e_1, e_2) (f_0, f_1, f_2)))) := Hid.intro (by unfold trcApartP; rw [hok, hd1, hd2]; rfl)
  have cC0 : w1.cell? ⟨w.heap.size, 0, none⟩ = some (.slice m.p m.l.length m.c) := heap_cell bC 0
  have cC1 : w1.cell? ⟨w.heap.size, 1, none⟩ = some (.slice la.p la.l.length la.c) := heap_cell bC 1
  have cC2 : w1.cell? ⟨w.heap.size, 2, none⟩ = some (.slice (some ⟨bs, os, none⟩) psl.length psc) := heap_cell bC 2
  have cA0 : w1.cell? ⟨w.heap.size + 1, 0, none⟩ = some (.int .i64 e_0) := heap_cell bA 0
  have cA1 : w1.cell? ⟨w.heap.size + 1, 1, none⟩ = some (.int .i64 e_1) := heap_cell bA 1
  have cA2 : w1.cell? ⟨w.heap.size + 1, 2, none⟩ = some (.int .i64 e_2) := heap_cell bA 2
  have cB0 : w1.cell? ⟨w.heap.size + 1 + 1, 0, none⟩ = some (.int .i64 f_0) := heap_cell bB 0
  have cB1 : w1.cell? ⟨w.heap.size + 1 + 1, 1, none⟩ = some (.int .i64 f_1) := heap_cell bB 1
  have cB2 : w1.cell? ⟨w.heap.size + 1 + 1, 2, none⟩ = some (.int .i64 f_2) := heap_cell bB 2
  obtain ⟨ap, hap⟩ : ∃ b, b = apartP z (e_0, e_1, e_2) (f_0, f_1, f_2) := ⟨_, rfl⟩
  rw [← hap] at HAP HT
  have HOLD : Hid (∀ W, Below w1.heap.size w1 W → W.heap[w.heap.size]? = some (.cells #[.slice m.p m.l.length m.c, .slice la.p la.l.length la.c, .slice (some ⟨bs, os, none⟩) psl.length psc] 32 (0, 0)) ∧ W.heap[w.heap.size + 1]? = some (.cells #[.int .i64 e_0, .int .i64 e_1, .int .i64 e_2] 61 (0, 0)) ∧ W.heap[w.heap.size + 1 + 1]? = some (.cells #[.int .i64 f_0, .int .i64 f_1, .int .i64 f_2] 61 (0, 0))) := Hid.intro (fun W hW => ⟨(hW.block _ (heap_lt bC)).trans bC, (hW.block _ (heap_lt bA)).trans bA, (hW.block _ (heap_lt bB)).trans bB⟩)
  clear bC bA bB bel hd1 hd2 hap hok H30
  go_wp2_with fail
  refine (HDA.out w1 (Below.refl _ _)).mono ?_
  rintro e w2 ⟨rfl, hb2⟩
  have HB2 := Hid.intro hb2
  clear hb2 HDA cC0 cC1 cC2 cA0 cA1 cA2 cB0 cB1 cB2
  cases d1
  · clear HDB HAP HOLD
    go_wp2
    go_ret
    exact ⟨by rw [HT.out]; rfl, BEL.out.trans (HB2.out.mono BEL.out.size)⟩
  have cC0 : w2.cell? ⟨w.heap.size, 0, none⟩ = some (.slice m.p m.l.length m.c) := heap_cell (HOLD.out w2 HB2.out).1 0
  have cC1 : w2.cell? ⟨w.heap.size, 1, none⟩ = some (.slice la.p la.l.length la.c) := heap_cell (HOLD.out w2 HB2.out).1 1
  have cC2 : w2.cell? ⟨w.heap.size, 2, none⟩ = some (.slice (some ⟨bs, os, none⟩) psl.length psc) := heap_cell (HOLD.out w2 HB2.out).1 2
  have cA0 : w2.cell? ⟨w.heap.size + 1, 0, none⟩ = some (.int .i64 e_0) := heap_cell (HOLD.out w2 HB2.out).2.1 0
  have cA1 : w2.cell? ⟨w.heap.size + 1, 1, none⟩ = some (.int .i64 e_1) := heap_cell (HOLD.out w2 HB2.out).2.1 1
  have cA2 : w2.cell? ⟨w.heap.size + 1, 2, none⟩ = some (.int .i64 e_2) := heap_cell (HOLD.out w2 HB2.out).2.1 2
  have cB0 : w2.cell? ⟨w.heap.size + 1 + 1, 0, none⟩ = some (.int .i64 f_0) := heap_cell (HOLD.out w2 HB2.out).2.2 0
  have cB1 : w2.cell? ⟨w.heap.size + 1 + 1, 1, none⟩ = some (.int .i64 f_1) := heap_cell (HOLD.out w2 HB2.out).2.2 1
  have cB2 : w2.cell? ⟨w.heap.size + 1 + 1, 2, none⟩ = some (.int .i64 f_2) := heap_cell (HOLD.out w2 HB2.out).2.2 2
  go_wp2_with fail
  refine (HDB.out w2 HB2.out).mono ?_
  rintro e w3 ⟨rfl, hb3⟩
  have HB3 := Hid.intro (HB2.out.trans (hb3.mono HB2.out.size))
  clear hb3 HDB HB2 cC0 cC1 cC2 cA0 cA1 cA2 cB0 cB1 cB2
  cases d2
  · clear HAP HOLD
    go_wp2
    go_ret
    exact ⟨by rw [HT.out]; rfl, BEL.out.trans (HB3.out.mono BEL.out.size)⟩
  have cC0 : w3.cell? ⟨w.heap.size, 0, none⟩ = some (.slice m.p m.l.length m.c) := heap_cell (HOLD.out w3 HB3.out).1 0
  have cC1 : w3.cell? ⟨w.heap.size, 1, none⟩ = some (.slice la.p la.l.length la.c) := heap_cell (HOLD.out w3 HB3.out).1 1
  have cC2 : w3.cell? ⟨w.heap.size, 2, none⟩ = some (.slice (some ⟨bs, os, none⟩) psl.length psc) := heap_cell (HOLD.out w3 HB3.out).1 2
  have cA0 : w3.cell? ⟨w.heap.size + 1, 0, none⟩ = some (.int .i64 e_0) := heap_cell (HOLD.out w3 HB3.out).2.1 0
  have cA1 : w3.cell? ⟨w.heap.size + 1, 1, none⟩ = some (.int .i64 e_1) := heap_cell (HOLD.out w3 HB3.out).2.1 1
  have cA2 : w3.cell? ⟨w.heap.size + 1, 2, none⟩ = some (.int .i64 e_2) := heap_cell (HOLD.out w3 HB3.out).2.1 2
  have cB0 : w3.cell? ⟨w.heap.size + 1 + 1, 0, none⟩ = some (.int .i64 f_0) := heap_cell (HOLD.out w3 HB3.out).2.2 0
  have cB1 : w3.cell? ⟨w.heap.size + 1 + 1, 1, none⟩ = some (.int .i64 f_1) := heap_cell (HOLD.out w3 HB3.out).2.2 1
  have cB2 : w3.cell? ⟨w.heap.size + 1 + 1, 2, none⟩ = some (.int .i64 f_2) := heap_cell (HOLD.out w3 HB3.out).2.2 2
  go_wp2_with fail
  refine (HAP.out (by simp) (by simp) w3 HB3.out).mono ?_
  rintro e w4 ⟨rfl, hb4⟩
  have HB4 := Hid.intro (HB3.out.trans (hb4.mono HB3.out.size))
  clear hb4 HAP HB3 HOLD cC0 cC1 cC2 cA0 cA1 cA2 cB0 cB1 cB2
  go_wp2
  go_ret
  exact ⟨by rw [HT.out]; rfl, BEL.out.trans (HB4.out.mono BEL.out.size)⟩

end Go.Proofs.Ytgjlkmhbaimjpaa

namespace Go.Proofs.Ytgjlkmhbaimjpaa
open Go.RowKit
set_option linter.unusedSimpArgs false
set_option linter.unusedVariables false

theorem prog_adr {m : (Lst (Int × Int × Int × Bool))} {la : Lst Int} {bs os psc : Nat} {psl : List (Lst (Int × Int × Int × Int × Bool × (Lst Int) × (Lst Int)))} (hok : busOkP (yBusCfg.pl (m, la, (⟨some ⟨bs, os, none⟩, psc, psl⟩ : Lst (Lst (Int × Int × Int × Int × Bool × (Lst Int) × (Lst Int)))))) = true) {k i : Nat} (hk : k < psl.length) (hi : i < psl[k].l.length) : adrOkB psl[k].l[i].2.2.1 psl[k].l[i].2.2.2.1 psl[k].l[i].2.2.2.2.1 = true := by
  have h : reqOkB (reqOf (yReqReq.pl psl[k].l[i])) = true := by
    unfold busOkP at hok
    simp only [Bool.and_eq_true, decide_eq_true_eq] at hok
    have hp := hok.2.2.2.2
    unfold progsB at hp
    have h1 := List.all_eq_true.1 hp (yReqReqS.pl psl[k]) (List.mem_map.2 ⟨psl[k], List.getElem_mem hk, rfl⟩)
    simp only [Bool.and_eq_true] at h1
    have h2 := h1.2
    unfold progOkB at h2
    exact List.all_eq_true.1 h2 _ (List.mem_map.2 ⟨_, List.mem_map.2 ⟨_, List.getElem_mem hi, rfl⟩, rfl⟩)
  exact req_adr h

set_option maxRecDepth 100000 in
set_option maxHeartbeats 4000000 in
theorem trcAreApart_any (m : (Lst (Int × Int × Int × Bool))) (la : Lst Int) (bs os psc : Nat) (psl : List (Lst (Int × Int × Int × Int × Bool × (Lst Int) × (Lst Int)))) (e_0 e_1 e_2 f_0 f_1 f_2 : Int) (w : World) (h : yBusCfg.rd w (m, la, (⟨some ⟨bs, os, none⟩, psc, psl⟩ : Lst (Lst (Int × Int × Int × Int × Bool × (Lst Int) × (Lst Int)))))) (hok : busOkP (yBusCfg.pl (m, la, (⟨some ⟨bs, os, none⟩, psc, psl⟩ : Lst (Lst (Int × Int × Int × Int × Bool × (Lst Int) × (Lst Int)))))) = true) (hd1 : doesP (yBusCfg.pl (m, la, (⟨some ⟨bs, os, none⟩, psc, psl⟩ : Lst (Lst (Int × Int × Int × Int × Bool × (Lst Int) × (Lst Int)))))) (e_0, e_1, e_2) = true) (hd2 : doesP (yBusCfg.pl (m, la, (⟨some ⟨bs, os, none⟩, psc, psl⟩ : Lst (Lst (Int × Int × Int × Int × Bool × (Lst Int) × (Lst Int)))))) (f_0, f_1, f_2) = true) :
    Calls Try.prog 81 #[.agg #[.slice m.p m.l.length m.c, .slice la.p la.l.length la.c, .slice (some ⟨bs, os, none⟩) psl.length psc], .agg #[.int .i64 e_0, .int .i64 e_1, .int .i64 e_2], .agg #[.int .i64 f_0, .int .i64 f_1, .int .i64 f_2]] w fun e w' => e = .returned (.bool (apartP (yBusCfg.pl (m, la, (⟨some ⟨bs, os, none⟩, psc, psl⟩ : Lst (Lst (Int × Int × Int × Int × Bool × (Lst Int) × (Lst Int)))))) (e_0, e_1, e_2) (f_0, f_1, f_2))) ∧ Below w.heap.size w w' := by
  have hbl : ∀ o o' o'', Below w.heap.size w (((w.alloc o).alloc o').alloc o'') := fun o o' o'' => (((Below.refl _ w).alloc (Nat.le_refl _) o).alloc (by simp) o').alloc (by simp <;> omega) o''
  have HD : Hid (apartP (yBusCfg.pl (m, la, (⟨some ⟨bs, os, none⟩, psc, psl⟩ : Lst (Lst (Int × Int × Int × Int × Bool × (Lst Int) × (Lst Int)))))) (e_0, e_1, e_2) (f_0, f_1, f_2) = (!(e_1 == f_1 || (e_0 == 3 && f_0 == 3)) && (!(e_0 == 2) || (!(f_0 == 2) || !meetP (askedP (yBusCfg.pl (m, la, (⟨some ⟨bs, os, none⟩, psc, psl⟩ : Lst (Lst (Int × Int × Int × Int × Bool × (Lst Int) × (Lst Int)))))) e_1 e_2) (askedP (yBusCfg.pl (m, la, (⟨some ⟨bs, os, none⟩, psc, psl⟩ : Lst (Lst (Int × Int × Int × Int × Bool × (Lst Int) × (Lst Int)))))) f_1 f_2))))) := Hid.intro rfl
  by_cases h1 : e_1 = f_1
  · have HX : Hid ((e_1 == f_1) = true) := Hid.intro (by simpa using h1)
    clear h hok hd1 hd2
    subst h1
    go_enter Try.func81, Try.ntmps81
    go_wp2
    go_ret
    exact ⟨by rw [HD.out, HX.out]; rfl, hbl _ _ _⟩
  have hn1 : (e_1 == f_1) = false := by simpa using h1
  have HX1 := Hid.intro hn1
  by_cases h2 : e_0 = 3 ∧ f_0 = 3
  · obtain ⟨rfl, rfl⟩ := h2
    clear h hok hd1 hd2
    go_enter Try.func81, Try.ntmps81
    go_wp2
    go_ret
    exact ⟨by rw [HD.out, HX1.out]; rfl, hbl _ _ _⟩
  have HX2 : Hid ((e_0 == 3 && f_0 == 3) = false) := Hid.intro (by
    cases ha : (e_0 == 3)
    · rfl
    · cases hb : (f_0 == 3)
      · rfl
      · exact absurd ⟨by simpa using ha, by simpa using hb⟩ h2)
  by_cases h3 : e_0 = 2
  rotate_left
  · have HX3 : Hid ((e_0 == 2) = false) := Hid.intro (by simpa using h3)
    have hde : (e_0 != 2) = true := by simpa using h3
    clear h hok hd1 hd2
    by_cases h4 : e_0 = 3
    · have h5 : ¬ f_0 = 3 := fun e => h2 ⟨h4, e⟩
      have hn5 : (f_0 == 3) = false := by simpa using h5
      subst h4
      go_enter Try.func81, Try.ntmps81
      go_wp2_with fail
      go_quiet (fail)
      go_wp2
      go_ret
      exact ⟨by rw [HD.out, HX1.out, HX2.out, HX3.out]; rfl, below_drewN (hbl _ _ _) nq⟩
    · have hn4 : (e_0 == 3) = false := by simpa using h4
      clear h2
      go_enter Try.func81, Try.ntmps81
      go_wp2_with fail
      go_quiet (fail)
      go_wp2
      go_ret
      exact ⟨by rw [HD.out, HX1.out, HX2.out, HX3.out]; rfl, below_drewN (hbl _ _ _) nq⟩
  subst h3
  by_cases h3 : f_0 = 2
  rotate_left
  · have HX3 : Hid ((f_0 == 2) = false) := Hid.intro (by simpa using h3)
    have hde : (f_0 != 2) = true := by simpa using h3
    clear h hok hd1 hd2 h2
    go_enter Try.func81, Try.ntmps81
    go_wp2_with fail
    go_quiet (fail)
    go_wp2
    go_ret
    exact ⟨by rw [HD.out, HX1.out, HX2.out, HX3.out]; rfl, below_drewN (hbl _ _ _) nq⟩
  subst h3
  clear h2
  have hp3 : psl.length = 3 := busOk_three hok
  unfold doesP at hd1 hd2
  simp only [Bool.and_eq_true, inB, decide_eq_true_eq] at hd1 hd2
  obtain ⟨k, rfl⟩ : ∃ k : Nat, e_1 = (k : Int) := ⟨e_1.toNat, by omega⟩
  obtain ⟨n, rfl⟩ : ∃ n : Nat, f_1 = (n : Int) := ⟨f_1.toNat, by omega⟩
  have hkl : k < psl.length := by omega
  have hnl : n < psl.length := by omega
  rw [lenP_at hkl] at hd1
  rw [lenP_at hnl] at hd2
  obtain ⟨i, rfl⟩ : ∃ i : Nat, e_2 = (i : Int) := ⟨e_2.toNat, by omega⟩
  obtain ⟨j, rfl⟩ : ∃ j : Nat, f_2 = (j : Int) := ⟨f_2.toNat, by omega⟩
  have hil : i < psl[k].l.length := by omega
  have hjl : j < psl[n].l.length := by omega
  have HEA := Hid.intro (askedP_at (m := m) (la := la) (bs := bs) (os := os) (psc := psc) hkl hil)
  have HEB := Hid.intro (askedP_at (m := m) (la := la) (bs := bs) (os := os) (psc := psc) hnl hjl)
  obtain ⟨hbs, cK, hrk⟩ := row_of h.2.2 rfl hkl
  obtain ⟨_, cN, hrn⟩ := row_of h.2.2 rfl hnl
  obtain ⟨bk, ok, hpk, _⟩ := reqs_at hrk hil
  obtain ⟨bn, on, hpn, _⟩ := reqs_at hrn hjl
  have hcq := req_of (p := psl[k].p) (cap := psl[k].c) (l := psl[k].l) hrk hpk hil
  have hcr := req_of (p := psl[n].p) (cap := psl[n].c) (l := psl[n].l) hrn hpn hjl
  have hqo := prog_adr hok hkl hil
  have hro := prog_adr hok hnl hjl
  generalize psl[k].l[i] = q at HEA hcq hqo
  generalize psl[n].l[j] = r at HEB hcr hro
  generalize psl[k] = pk at cK hpk hil
  generalize psl[n] = pn at cN hpn hjl
  obtain ⟨pkp, ck, lk⟩ := pk
  obtain ⟨pnp, cn, ln⟩ := pn
  simp only at hpk hpn hil hjl cK cN
  subst hpk hpn
  obtain ⟨hbk, hcq, _⟩ := hcq
  obtain ⟨hbn, hcr, _⟩ := hcr
  obtain ⟨q_0, q_1, q_2, q_3, q_4, q_5, q_6⟩ := q
  obtain ⟨r_0, r_1, r_2, r_3, r_4, r_5, r_6⟩ := r
  have cq0 : w.cell? ⟨bk, ok + i * 7, none⟩ = some (.int .i64 q_0) := hcq 0 _ rfl
  have cq1 : w.cell? ⟨bk, ok + i * 7 + 1, none⟩ = some (.int .i64 q_1) := hcq 1 _ rfl
  have cq2 : w.cell? ⟨bk, ok + i * 7 + 2, none⟩ = some (.int .i64 q_2) := hcq 2 _ rfl
  have cq3 : w.cell? ⟨bk, ok + i * 7 + 3, none⟩ = some (.int .i64 q_3) := hcq 3 _ rfl
  have cq4 : w.cell? ⟨bk, ok + i * 7 + 4, none⟩ = some (.bool q_4) := hcq 4 _ rfl
  have cq5 : w.cell? ⟨bk, ok + i * 7 + 5, none⟩ = some (.slice q_5.p q_5.l.length q_5.c) := hcq 5 _ rfl
  have cq6 : w.cell? ⟨bk, ok + i * 7 + 6, none⟩ = some (.slice q_6.p q_6.l.length q_6.c) := hcq 6 _ rfl
  have cr0 : w.cell? ⟨bn, on + j * 7, none⟩ = some (.int .i64 r_0) := hcr 0 _ rfl
  have cr1 : w.cell? ⟨bn, on + j * 7 + 1, none⟩ = some (.int .i64 r_1) := hcr 1 _ rfl
  have cr2 : w.cell? ⟨bn, on + j * 7 + 2, none⟩ = some (.int .i64 r_2) := hcr 2 _ rfl
  have cr3 : w.cell? ⟨bn, on + j * 7 + 3, none⟩ = some (.int .i64 r_3) := hcr 3 _ rfl
  have cr4 : w.cell? ⟨bn, on + j * 7 + 4, none⟩ = some (.bool r_4) := hcr 4 _ rfl
  have cr5 : w.cell? ⟨bn, on + j * 7 + 5, none⟩ = some (.slice r_5.p r_5.l.length r_5.c) := hcr 5 _ rfl
  have cr6 : w.cell? ⟨bn, on + j * 7 + 6, none⟩ = some (.slice r_6.p r_6.l.length r_6.c) := hcr 6 _ rfl
  obtain ⟨mt, hmt⟩ : ∃ b, b = meetP (reqOf (yReqReq.pl (q_0, q_1, q_2, q_3, q_4, q_5, q_6))) (reqOf (yReqReq.pl (r_0, r_1, r_2, r_3, r_4, r_5, r_6))) := ⟨_, rfl⟩
  have HMT : Hid (∀ W : World, Calls Try.prog 115 #[.agg #[.int .i64 q_0, .int .i64 q_1, .int .i64 q_2, .int .i64 q_3, .bool q_4, .slice q_5.p q_5.l.length q_5.c, .slice q_6.p q_6.l.length q_6.c], .agg #[.int .i64 r_0, .int .i64 r_1, .int .i64 r_2, .int .i64 r_3, .bool r_4, .slice r_5.p r_5.l.length r_5.c, .slice r_6.p r_6.l.length r_6.c]] W fun e w' => e = .returned (.bool mt) ∧ Below W.heap.size W w') := Hid.intro (fun W => by rw [hmt]; exact trcMeet_any (q_0, q_1, q_2, q_3, q_4, q_5, q_6) (r_0, r_1, r_2, r_3, r_4, r_5, r_6) hqo hro W)
  have HF : Hid (apartP (yBusCfg.pl (m, la, (⟨some ⟨bs, os, none⟩, psc, psl⟩ : Lst (Lst (Int × Int × Int × Int × Bool × (Lst Int) × (Lst Int)))))) (2, (k : Int), (i : Int)) (2, (n : Int), (j : Int)) = !mt) := Hid.intro (by rw [HD.out, HX1.out, HEA.out, HEB.out, ← hmt]; simp)
  clear hcq hcr hmt hqo hro HD HEA HEB hrk hrn h hok hd1 hd2 HX2 hp3
  go_enter Try.func81, Try.ntmps81
  go_wp2_with fail
  obtain ⟨W0, hW0⟩ : ∃ W0, ((w.alloc (.cells #[.slice m.p m.l.length m.c, .slice la.p la.l.length la.c, .slice (some ⟨bs, os, none⟩) psl.length psc] 32)).alloc (.cells #[.int .i64 2, .int .i64 (k : Int), .int .i64 (i : Int)] 61)).alloc (.cells #[.int .i64 2, .int .i64 (n : Int), .int .i64 (j : Int)] 61) = W0 := ⟨_, rfl⟩
  have b0 : Below w.heap.size w W0 := by rw [← hW0]; exact hbl _ _ _
  have bC : W0.heap[w.heap.size]? = some (.cells #[.slice m.p m.l.length m.c, .slice la.p la.l.length la.c, .slice (some ⟨bs, os, none⟩) psl.length psc] 32 (0, 0)) := by rw [← hW0]; exact (Below.heap_alloc _ _ _ (by simp <;> omega)).trans ((Below.heap_alloc _ _ _ (by simp)).trans (nw_k _ rfl))
  have bA : W0.heap[w.heap.size + 1]? = some (.cells #[.int .i64 2, .int .i64 (k : Int), .int .i64 (i : Int)] 61 (0, 0)) := by rw [← hW0]; exact (Below.heap_alloc _ _ _ (by simp)).trans (nw_k _ (by simp))
  have bB : W0.heap[w.heap.size + 1 + 1]? = some (.cells #[.int .i64 2, .int .i64 (n : Int), .int .i64 (j : Int)] 61 (0, 0)) := by rw [← hW0]; exact nw_k _ (by simp)
  rw [hW0]
  obtain ⟨AB, hAB⟩ : ∃ A, A = w.heap.size + 1 + 1 := ⟨_, rfl⟩
  rw [← hAB] at bB ⊢
  obtain ⟨AA, hAA⟩ : ∃ A, A = w.heap.size + 1 := ⟨_, rfl⟩
  rw [← hAA] at bA ⊢
  obtain ⟨AC, hAC⟩ : ∃ A, A = w.heap.size := ⟨_, rfl⟩
  rw [← hAC] at bC ⊢
  clear hAB hAA hAC hW0 hbl
  have HB0 := Hid.intro b0
  have cC0 : W0.cell? ⟨AC, 0, none⟩ = some (.slice m.p m.l.length m.c) := heap_cell bC 0
  have cC1 : W0.cell? ⟨AC, 1, none⟩ = some (.slice la.p la.l.length la.c) := heap_cell bC 1
  have cC2 : W0.cell? ⟨AC, 2, none⟩ = some (.slice (some ⟨bs, os, none⟩) psl.length psc) := heap_cell bC 2
  have cA0 : W0.cell? ⟨AA, 0, none⟩ = some (.int .i64 2) := heap_cell bA 0
  have cA1 : W0.cell? ⟨AA, 1, none⟩ = some (.int .i64 (k : Int)) := heap_cell bA 1
  have cA2 : W0.cell? ⟨AA, 2, none⟩ = some (.int .i64 (i : Int)) := heap_cell bA 2
  have cB0 : W0.cell? ⟨AB, 0, none⟩ = some (.int .i64 2) := heap_cell bB 0
  have cB1 : W0.cell? ⟨AB, 1, none⟩ = some (.int .i64 (n : Int)) := heap_cell bB 1
  have cB2 : W0.cell? ⟨AB, 2, none⟩ = some (.int .i64 (j : Int)) := heap_cell bB 2
  have hlC := heap_lt bC
  have hlA := heap_lt bA
  have hlB := heap_lt bB
  replace cK := (b0.cell (p := ⟨bs, os + k, none⟩) hbs).trans cK
  replace cN := (b0.cell (p := ⟨bs, os + n, none⟩) hbs).trans cN
  replace cq0 := (b0.cell (p := ⟨bk, ok + i * 7, none⟩) hbk).trans cq0
  replace cq1 := (b0.cell (p := ⟨bk, ok + i * 7 + 1, none⟩) hbk).trans cq1
  replace cq2 := (b0.cell (p := ⟨bk, ok + i * 7 + 2, none⟩) hbk).trans cq2
  replace cq3 := (b0.cell (p := ⟨bk, ok + i * 7 + 3, none⟩) hbk).trans cq3
  replace cq4 := (b0.cell (p := ⟨bk, ok + i * 7 + 4, none⟩) hbk).trans cq4
  replace cq5 := (b0.cell (p := ⟨bk, ok + i * 7 + 5, none⟩) hbk).trans cq5
  replace cq6 := (b0.cell (p := ⟨bk, ok + i * 7 + 6, none⟩) hbk).trans cq6
  replace cr0 := (b0.cell (p := ⟨bn, on + j * 7, none⟩) hbn).trans cr0
  replace cr1 := (b0.cell (p := ⟨bn, on + j * 7 + 1, none⟩) hbn).trans cr1
  replace cr2 := (b0.cell (p := ⟨bn, on + j * 7 + 2, none⟩) hbn).trans cr2
  replace cr3 := (b0.cell (p := ⟨bn, on + j * 7 + 3, none⟩) hbn).trans cr3
  replace cr4 := (b0.cell (p := ⟨bn, on + j * 7 + 4, none⟩) hbn).trans cr4
  replace cr5 := (b0.cell (p := ⟨bn, on + j * 7 + 5, none⟩) hbn).trans cr5
  replace cr6 := (b0.cell (p := ⟨bn, on + j * 7 + 6, none⟩) hbn).trans cr6
  replace hbs := Nat.lt_of_lt_of_le hbs b0.size
  replace hbk := Nat.lt_of_lt_of_le hbk b0.size
  replace hbn := Nat.lt_of_lt_of_le hbn b0.size
  clear bC bA bB b0
  go_wp2_with fail
  refine wp_region_typed (by kernel_rfl) Gr (fun _ W => Below W0.heap.size W0 W)
    (tab [(22, kIs (.pointer (some ⟨AA, 0, none⟩))), (23, kIs (.int .i64 2)), (24, kIs (.bool false)), (25, kIs (.bool false)), (26, kIs (.pointer (some ⟨AB, 0, none⟩))), (27, kIs (.int .i64 2)), (28, kIs (.bool false)), (29, kIs (.bool false)), (30, kIs (.bool false)), (31, kIs (.pointer (some ⟨AC, 2, none⟩))), (32, kIs (.slice (some ⟨bs, os, none⟩) psl.length psc)), (33, kIs (.pointer (some ⟨AA, 1, none⟩))), (34, kIs (.int .i64 (k : Int))), (35, kIs (.pointer (some ⟨bs, os + k, none⟩))), (36, kIs (.slice (some ⟨bk, ok, none⟩) lk.length ck)), (37, kIs (.pointer (some ⟨AA, 2, none⟩))), (38, kIs (.int .i64 (i : Int))), (39, kIs (.pointer (some ⟨bk, ok + i * 7, none⟩))), (40, kIs (.agg #[.int .i64 q_0, .int .i64 q_1, .int .i64 q_2, .int .i64 q_3, .bool q_4, .slice q_5.p q_5.l.length q_5.c, .slice q_6.p q_6.l.length q_6.c])), (41, kIs (.pointer (some ⟨AC, 2, none⟩))), (42, kIs (.slice (some ⟨bs, os, none⟩) psl.length psc)), (43, kIs (.pointer (some ⟨AB, 1, none⟩))), (44, kIs (.int .i64 (n : Int))), (45, kIs (.pointer (some ⟨bs, os + n, none⟩))), (46, kIs (.slice (some ⟨bn, on, none⟩) ln.length cn)), (47, kIs (.pointer (some ⟨AB, 2, none⟩))), (48, kIs (.int .i64 (j : Int))), (49, kIs (.pointer (some ⟨bn, on + j * 7, none⟩))), (50, kIs (.agg #[.int .i64 r_0, .int .i64 r_1, .int .i64 r_2, .int .i64 r_3, .bool r_4, .slice r_5.p r_5.l.length r_5.c, .slice r_6.p r_6.l.length r_6.c])), (51, kIs (.bool mt)), (52, kIs (.bool (!mt))), (53, kIs (.bool (!mt))), (6, kIs (.bool (!mt)))])
    [22, 23, 24, 25, 26, 27, 28, 29, 30, 31, 32, 33, 34, 35, 36, 37, 38, 39, 40, 41, 42, 43, 44, 45, 46, 47, 48, 49, 50, 51, 52, 53, 6] (by kernel_rfl) (by kernel_rfl) ?_ ?_ ?_ ?_
  · refine tabR_stable ?_
    intro x hx
    simp only [List.mem_cons, List.not_mem_nil, or_false] at hx
    rcases hx with rfl | rfl | rfl | rfl | rfl | rfl | rfl | rfl | rfl | rfl | rfl | rfl | rfl | rfl | rfl | rfl | rfl | rfl | rfl | rfl | rfl | rfl | rfl | rfl | rfl | rfl | rfl | rfl | rfl | rfl | rfl | rfl | rfl
    all_goals intro w w' v hr hv
    all_goals first | exact hv
  · exact (Below.refl _ _).drew
  · refine ops_cons (gd rfl <| tx_pure rfl rfl (fun _ _ h => h) Gr.refl (fun ix ρ W hat hW => ?_)) ?_
    · have e0 := hat.out 4 (by kernel_rfl)
      simp [Act.eval] at e0
      simp only [execOp, e0]; go_simp
    refine ops_cons (gd rfl <| tx_pure rfl rfl (fun _ _ h => h) Gr.refl (fun ix ρ W hat hW => ?_)) ?_
    · have e0 : ρ (.tmp 22) = _ := hat.dep 22 (by kernel_rfl)
      have c0 : W.cell? ⟨AA, 0, none⟩ = some (.int .i64 2) := (hW.cell (p := ⟨AA, 0, none⟩) hlA).trans cA0
      simp only [execOp, e0]; go_simp
    refine ops_cons (gd rfl <| tx_pure rfl rfl (fun _ _ h => h) Gr.refl (fun ix ρ W hat hW => ?_)) ?_
    · have hc := hat.con
      have e0 : ρ (.tmp 23) = _ := hat.dep 23 (by kernel_rfl)
      simp only [execOp, e0]; go_simp
    refine ops_cons (gd rfl <| tx_pure rfl rfl (fun _ _ h => h) Gr.refl (fun ix ρ W hat hW => ?_)) ?_
    · have e0 : ρ (.tmp 24) = _ := hat.dep 24 (by kernel_rfl)
      simp only [execOp, e0]; go_simp
    refine ops_cons (gdG 3 false rfl _ rfl 25 rfl rfl (by kernel_rfl) <| tx_pure rfl rfl (fun _ _ h => h) Gr.refl (fun ix ρ W hat hW => ?_)) ?_
    · have e0 := hat.out 5 (by kernel_rfl)
      simp [Act.eval] at e0
      simp only [execOp, e0]; go_simp
    refine ops_cons (gdG 3 false rfl _ rfl 25 rfl rfl (by kernel_rfl) <| tx_pure rfl rfl (fun _ _ h => h) Gr.refl (fun ix ρ W hat hW => ?_)) ?_
    · have e0 : ρ (.tmp 26) = _ := hat.dep 26 (by kernel_rfl)
      have c0 : W.cell? ⟨AB, 0, none⟩ = some (.int .i64 2) := (hW.cell (p := ⟨AB, 0, none⟩) hlB).trans cB0
      simp only [execOp, e0]; go_simp
    refine ops_cons (gdG 3 false rfl _ rfl 25 rfl rfl (by kernel_rfl) <| tx_pure rfl rfl (fun _ _ h => h) Gr.refl (fun ix ρ W hat hW => ?_)) ?_
    · have hc := hat.con
      have e0 : ρ (.tmp 27) = _ := hat.dep 27 (by kernel_rfl)
      simp only [execOp, e0]; go_simp
    refine ops_cons (gd rfl <| tx_pure rfl rfl (fun _ _ h => h) Gr.refl (fun ix ρ W hat hW => ?_)) ?_
    · have hc := hat.con
      have e0 : ρ (.tmp 25) = _ := hat.dep 25 (by kernel_rfl)
      have e1 : ρ (.tmp 28) = _ := hat.dep 28 (by kernel_rfl)
      simp only [execOp, e0, e1]; go_simp
    refine ops_cons (gd rfl <| tx_pure rfl rfl (fun _ _ h => h) Gr.refl (fun ix ρ W hat hW => ?_)) ?_
    · have e0 : ρ (.tmp 29) = _ := hat.dep 29 (by kernel_rfl)
      simp only [execOp, e0]; go_simp
    refine ops_cons (gdG 8 false rfl _ rfl 30 rfl rfl (by kernel_rfl) <| tx_pure rfl rfl (fun _ _ h => h) Gr.refl (fun ix ρ W hat hW => ?_)) ?_
    · have e0 := hat.out 3 (by kernel_rfl)
      simp [Act.eval] at e0
      simp only [execOp, e0]; go_simp
    refine ops_cons (gdG 8 false rfl _ rfl 30 rfl rfl (by kernel_rfl) <| tx_pure rfl rfl (fun _ _ h => h) Gr.refl (fun ix ρ W hat hW => ?_)) ?_
    · have e0 : ρ (.tmp 31) = _ := hat.dep 31 (by kernel_rfl)
      have c0 : W.cell? ⟨AC, 2, none⟩ = some (.slice (some ⟨bs, os, none⟩) psl.length psc) := (hW.cell (p := ⟨AC, 2, none⟩) hlC).trans cC2
      simp only [execOp, e0]; go_simp
    refine ops_cons (gdG 8 false rfl _ rfl 30 rfl rfl (by kernel_rfl) <| tx_pure rfl rfl (fun _ _ h => h) Gr.refl (fun ix ρ W hat hW => ?_)) ?_
    · have e0 := hat.out 4 (by kernel_rfl)
      simp [Act.eval] at e0
      simp only [execOp, e0]; go_simp
    refine ops_cons (gdG 8 false rfl _ rfl 30 rfl rfl (by kernel_rfl) <| tx_pure rfl rfl (fun _ _ h => h) Gr.refl (fun ix ρ W hat hW => ?_)) ?_
    · have e0 : ρ (.tmp 33) = _ := hat.dep 33 (by kernel_rfl)
      have c0 : W.cell? ⟨AA, 1, none⟩ = some (.int .i64 (k : Int)) := (hW.cell (p := ⟨AA, 1, none⟩) hlA).trans cA1
      simp only [execOp, e0]; go_simp
    refine ops_cons (gdG 8 false rfl _ rfl 30 rfl rfl (by kernel_rfl) <| tx_pure rfl rfl (fun _ _ h => h) Gr.refl (fun ix ρ W hat hW => ?_)) ?_
    · have e0 : ρ (.tmp 32) = _ := hat.dep 32 (by kernel_rfl)
      have e1 : ρ (.tmp 34) = _ := hat.dep 34 (by kernel_rfl)
      have u0 : (0 : Int) ≤ (k : Int) := by omega
      have u1 : (k : Int) < (psl.length : Int) := by omega
      simp only [execOp, e0, e1]; go_simp
    refine ops_cons (gdG 8 false rfl _ rfl 30 rfl rfl (by kernel_rfl) <| tx_pure rfl rfl (fun _ _ h => h) Gr.refl (fun ix ρ W hat hW => ?_)) ?_
    · have e0 : ρ (.tmp 35) = _ := hat.dep 35 (by kernel_rfl)
      have c0 : W.cell? ⟨bs, os + k, none⟩ = some (.slice (some ⟨bk, ok, none⟩) lk.length ck) := (hW.cell (p := ⟨bs, os + k, none⟩) hbs).trans cK
      simp only [execOp, e0]; go_simp
    refine ops_cons (gdG 8 false rfl _ rfl 30 rfl rfl (by kernel_rfl) <| tx_pure rfl rfl (fun _ _ h => h) Gr.refl (fun ix ρ W hat hW => ?_)) ?_
    · have e0 := hat.out 4 (by kernel_rfl)
      simp [Act.eval] at e0
      simp only [execOp, e0]; go_simp
    refine ops_cons (gdG 8 false rfl _ rfl 30 rfl rfl (by kernel_rfl) <| tx_pure rfl rfl (fun _ _ h => h) Gr.refl (fun ix ρ W hat hW => ?_)) ?_
    · have e0 : ρ (.tmp 37) = _ := hat.dep 37 (by kernel_rfl)
      have c0 : W.cell? ⟨AA, 2, none⟩ = some (.int .i64 (i : Int)) := (hW.cell (p := ⟨AA, 2, none⟩) hlA).trans cA2
      simp only [execOp, e0]; go_simp
    refine ops_cons (gdG 8 false rfl _ rfl 30 rfl rfl (by kernel_rfl) <| tx_pure rfl rfl (fun _ _ h => h) Gr.refl (fun ix ρ W hat hW => ?_)) ?_
    · have e0 : ρ (.tmp 36) = _ := hat.dep 36 (by kernel_rfl)
      have e1 : ρ (.tmp 38) = _ := hat.dep 38 (by kernel_rfl)
      have u0 : (0 : Int) ≤ (i : Int) := by omega
      have u1 : (i : Int) < (lk.length : Int) := by omega
      simp only [execOp, e0, e1]; go_simp
    refine ops_cons (gdG 8 false rfl _ rfl 30 rfl rfl (by kernel_rfl) <| tx_pure rfl rfl (fun _ _ h => h) Gr.refl (fun ix ρ W hat hW => ?_)) ?_
    · have e0 : ρ (.tmp 39) = _ := hat.dep 39 (by kernel_rfl)
      have c0 : W.cell? ⟨bk, ok + i * 7, none⟩ = some (.int .i64 q_0) := (hW.cell (p := ⟨bk, ok + i * 7, none⟩) hbk).trans cq0
      have c1 : W.cell? ⟨bk, ok + i * 7 + 1, none⟩ = some (.int .i64 q_1) := (hW.cell (p := ⟨bk, ok + i * 7 + 1, none⟩) hbk).trans cq1
      have c2 : W.cell? ⟨bk, ok + i * 7 + 2, none⟩ = some (.int .i64 q_2) := (hW.cell (p := ⟨bk, ok + i * 7 + 2, none⟩) hbk).trans cq2
      have c3 : W.cell? ⟨bk, ok + i * 7 + 3, none⟩ = some (.int .i64 q_3) := (hW.cell (p := ⟨bk, ok + i * 7 + 3, none⟩) hbk).trans cq3
      have c4 : W.cell? ⟨bk, ok + i * 7 + 4, none⟩ = some (.bool q_4) := (hW.cell (p := ⟨bk, ok + i * 7 + 4, none⟩) hbk).trans cq4
      have c5 : W.cell? ⟨bk, ok + i * 7 + 5, none⟩ = some (.slice q_5.p q_5.l.length q_5.c) := (hW.cell (p := ⟨bk, ok + i * 7 + 5, none⟩) hbk).trans cq5
      have c6 : W.cell? ⟨bk, ok + i * 7 + 6, none⟩ = some (.slice q_6.p q_6.l.length q_6.c) := (hW.cell (p := ⟨bk, ok + i * 7 + 6, none⟩) hbk).trans cq6
      simp only [execOp, e0]; go_simp
    refine ops_cons (gdG 8 false rfl _ rfl 30 rfl rfl (by kernel_rfl) <| tx_pure rfl rfl (fun _ _ h => h) Gr.refl (fun ix ρ W hat hW => ?_)) ?_
    · have e0 := hat.out 3 (by kernel_rfl)
      simp [Act.eval] at e0
      simp only [execOp, e0]; go_simp
    refine ops_cons (gdG 8 false rfl _ rfl 30 rfl rfl (by kernel_rfl) <| tx_pure rfl rfl (fun _ _ h => h) Gr.refl (fun ix ρ W hat hW => ?_)) ?_
    · have e0 : ρ (.tmp 41) = _ := hat.dep 41 (by kernel_rfl)
      have c0 : W.cell? ⟨AC, 2, none⟩ = some (.slice (some ⟨bs, os, none⟩) psl.length psc) := (hW.cell (p := ⟨AC, 2, none⟩) hlC).trans cC2
      simp only [execOp, e0]; go_simp
    refine ops_cons (gdG 8 false rfl _ rfl 30 rfl rfl (by kernel_rfl) <| tx_pure rfl rfl (fun _ _ h => h) Gr.refl (fun ix ρ W hat hW => ?_)) ?_
    · have e0 := hat.out 5 (by kernel_rfl)
      simp [Act.eval] at e0
      simp only [execOp, e0]; go_simp
    refine ops_cons (gdG 8 false rfl _ rfl 30 rfl rfl (by kernel_rfl) <| tx_pure rfl rfl (fun _ _ h => h) Gr.refl (fun ix ρ W hat hW => ?_)) ?_
    · have e0 : ρ (.tmp 43) = _ := hat.dep 43 (by kernel_rfl)
      have c0 : W.cell? ⟨AB, 1, none⟩ = some (.int .i64 (n : Int)) := (hW.cell (p := ⟨AB, 1, none⟩) hlB).trans cB1
      simp only [execOp, e0]; go_simp
    refine ops_cons (gdG 8 false rfl _ rfl 30 rfl rfl (by kernel_rfl) <| tx_pure rfl rfl (fun _ _ h => h) Gr.refl (fun ix ρ W hat hW => ?_)) ?_
    · have e0 : ρ (.tmp 42) = _ := hat.dep 42 (by kernel_rfl)
      have e1 : ρ (.tmp 44) = _ := hat.dep 44 (by kernel_rfl)
      have u0 : (0 : Int) ≤ (n : Int) := by omega
      have u1 : (n : Int) < (psl.length : Int) := by omega
      simp only [execOp, e0, e1]; go_simp
    refine ops_cons (gdG 8 false rfl _ rfl 30 rfl rfl (by kernel_rfl) <| tx_pure rfl rfl (fun _ _ h => h) Gr.refl (fun ix ρ W hat hW => ?_)) ?_
    · have e0 : ρ (.tmp 45) = _ := hat.dep 45 (by kernel_rfl)
      have c0 : W.cell? ⟨bs, os + n, none⟩ = some (.slice (some ⟨bn, on, none⟩) ln.length cn) := (hW.cell (p := ⟨bs, os + n, none⟩) hbs).trans cN
      simp only [execOp, e0]; go_simp
    refine ops_cons (gdG 8 false rfl _ rfl 30 rfl rfl (by kernel_rfl) <| tx_pure rfl rfl (fun _ _ h => h) Gr.refl (fun ix ρ W hat hW => ?_)) ?_
    · have e0 := hat.out 5 (by kernel_rfl)
      simp [Act.eval] at e0
      simp only [execOp, e0]; go_simp
    refine ops_cons (gdG 8 false rfl _ rfl 30 rfl rfl (by kernel_rfl) <| tx_pure rfl rfl (fun _ _ h => h) Gr.refl (fun ix ρ W hat hW => ?_)) ?_
    · have e0 : ρ (.tmp 47) = _ := hat.dep 47 (by kernel_rfl)
      have c0 : W.cell? ⟨AB, 2, none⟩ = some (.int .i64 (j : Int)) := (hW.cell (p := ⟨AB, 2, none⟩) hlB).trans cB2
      simp only [execOp, e0]; go_simp
    refine ops_cons (gdG 8 false rfl _ rfl 30 rfl rfl (by kernel_rfl) <| tx_pure rfl rfl (fun _ _ h => h) Gr.refl (fun ix ρ W hat hW => ?_)) ?_
    · have e0 : ρ (.tmp 46) = _ := hat.dep 46 (by kernel_rfl)
      have e1 : ρ (.tmp 48) = _ := hat.dep 48 (by kernel_rfl)
      have u0 : (0 : Int) ≤ (j : Int) := by omega
      have u1 : (j : Int) < (ln.length : Int) := by omega
      simp only [execOp, e0, e1]; go_simp
    refine ops_cons (gdG 8 false rfl _ rfl 30 rfl rfl (by kernel_rfl) <| tx_pure rfl rfl (fun _ _ h => h) Gr.refl (fun ix ρ W hat hW => ?_)) ?_
    · have e0 : ρ (.tmp 49) = _ := hat.dep 49 (by kernel_rfl)
      have c0 : W.cell? ⟨bn, on + j * 7, none⟩ = some (.int .i64 r_0) := (hW.cell (p := ⟨bn, on + j * 7, none⟩) hbn).trans cr0
      have c1 : W.cell? ⟨bn, on + j * 7 + 1, none⟩ = some (.int .i64 r_1) := (hW.cell (p := ⟨bn, on + j * 7 + 1, none⟩) hbn).trans cr1
      have c2 : W.cell? ⟨bn, on + j * 7 + 2, none⟩ = some (.int .i64 r_2) := (hW.cell (p := ⟨bn, on + j * 7 + 2, none⟩) hbn).trans cr2
      have c3 : W.cell? ⟨bn, on + j * 7 + 3, none⟩ = some (.int .i64 r_3) := (hW.cell (p := ⟨bn, on + j * 7 + 3, none⟩) hbn).trans cr3
      have c4 : W.cell? ⟨bn, on + j * 7 + 4, none⟩ = some (.bool r_4) := (hW.cell (p := ⟨bn, on + j * 7 + 4, none⟩) hbn).trans cr4
      have c5 : W.cell? ⟨bn, on + j * 7 + 5, none⟩ = some (.slice r_5.p r_5.l.length r_5.c) := (hW.cell (p := ⟨bn, on + j * 7 + 5, none⟩) hbn).trans cr5
      have c6 : W.cell? ⟨bn, on + j * 7 + 6, none⟩ = some (.slice r_6.p r_6.l.length r_6.c) := (hW.cell (p := ⟨bn, on + j * 7 + 6, none⟩) hbn).trans cr6
      simp only [execOp, e0]; go_simp
    refine ops_cons (gdG 8 false rfl _ rfl 30 rfl rfl (by kernel_rfl) <| tx_call rfl (fun ix ρ W _ hat hW => ?_)) ?_
    · have hf := hat.fn
      have e0 : ρ (.tmp 40) = _ := hat.dep 40 (by kernel_rfl)
      have e1 : ρ (.tmp 50) = _ := hat.dep 50 (by kernel_rfl)
      refine ⟨115, #[.agg #[.int .i64 q_0, .int .i64 q_1, .int .i64 q_2, .int .i64 q_3, .bool q_4, .slice q_5.p q_5.l.length q_5.c, .slice q_6.p q_6.l.length q_6.c], .agg #[.int .i64 r_0, .int .i64 r_1, .int .i64 r_2, .int .i64 r_3, .bool r_4, .slice r_5.p r_5.l.length r_5.c, .slice r_6.p r_6.l.length r_6.c]], by simp only [execOp]; go_simp, ?_⟩
      refine (HMT.out W).mono ?_
      rintro e W' ⟨rfl, hb⟩
      exact ⟨_, rfl, hW.trans (hb.mono hW.size), hb, rfl⟩
    refine ops_cons (gdG 8 false rfl _ rfl 30 rfl rfl (by kernel_rfl) <| tx_pure rfl rfl (fun _ _ h => h) Gr.refl (fun ix ρ W hat hW => ?_)) ?_
    · have hc := hat.con
      have e0 : ρ (.tmp 51) = _ := hat.dep 51 (by kernel_rfl)
      simp only [execOp, e0]; go_simp
    refine ops_cons (gd rfl <| tx_pure rfl rfl (fun _ _ h => h) Gr.refl (fun ix ρ W hat hW => ?_)) ?_
    · have hc := hat.con
      have e0 : ρ (.tmp 30) = _ := hat.dep 30 (by kernel_rfl)
      have e1 : ρ (.tmp 52) = _ := hat.dep 52 (by kernel_rfl)
      simp only [execOp, e0, e1]; go_simp
    refine ops_cons (gd rfl <| tx_pure rfl rfl (fun _ _ h => h) Gr.refl (fun ix ρ W hat hW => ?_)) ?_
    · have e0 : ρ (.tmp 53) = _ := hat.dep 53 (by kernel_rfl)
      simp only [execOp, e0]; go_simp
    exact ops_nil
  intro f w9 hb hf
  have ee6 : f 6 = .bool (!mt) := hf 6 (by simp)
  clear hf
  simp only [fill, ee6]
  go_simp
  clear ee6
  clear cK cN cC0 cC1 cC2 cA0 cA1 cA2 cB0 cB1 cB2 cq0 cq1 cq2 cq3 cq4 cq5 cq6 cr0 cr1 cr2 cr3 cr4 cr5 cr6
  go_wp2
  go_ret
  exact ⟨by rw [HF.out]; rfl, HB0.out.trans (hb.mono HB0.out.size)⟩

set_option maxRecDepth 100000 in
set_option maxHeartbeats 4000000 in
theorem impl_TrcApart (hI : ReqOkC) (c : ((Lst (Int × Int × Int × Bool)) × (Lst Int) × (Lst (Lst (Int × Int × Int × Int × Bool × (Lst Int) × (Lst Int)))))) (a b : Int × Int × Int) (w : World) (h : yBusCfg.rd w c) :
    Calls Try.prog 27 #[yBusCfg.val c, yTlmEvent.val a, yTlmEvent.val b] w fun e w' => e = .returned (.bool (trcApartP (yBusCfg.pl c) a b)) ∧ Below w.heap.size w w' := by
  obtain ⟨m, la, ps⟩ := c
  obtain ⟨e_0, e_1, e_2⟩ := a
  obtain ⟨f_0, f_1, f_2⟩ := b
  have hbl : ∀ o o' o'', Below w.heap.size w (((w.alloc o).alloc o').alloc o'') := fun o o' o'' => (((Below.refl _ w).alloc (Nat.le_refl _) o).alloc (by simp) o').alloc (by simp <;> omega) o''
  have HR := Hid.intro h
  obtain ⟨z, hz⟩ : ∃ z, z = yBusCfg.pl (m, la, ps) := ⟨_, rfl⟩
  have HBO : Hid (∀ W, Below w.heap.size w W → Calls Try.prog 12 #[.agg #[.slice m.p m.l.length m.c, .slice la.p la.l.length la.c, .slice ps.p ps.l.length ps.c]] W fun e w' => e = .returned (.bool (busOkP z)) ∧ Below W.heap.size W w') := Hid.intro (fun W hW => by rw [hz]; exact impl_BusOk hI (m, la, ps) W (yBusCfg_law.rd_blw h hW))
  have HZ := Hid.intro hz
  clear hI
  rw [← hz]
  clear h hz
  show Calls Try.prog 27 #[.agg #[.slice m.p m.l.length m.c, .slice la.p la.l.length la.c, .slice ps.p ps.l.length ps.c], .agg #[.int .i64 e_0, .int .i64 e_1, .int .i64 e_2], .agg #[.int .i64 f_0, .int .i64 f_1, .int .i64 f_2]] w _
  go_enter Try.func27, Try.ntmps27
  go_wp2_with fail
  refine (HBO.out _ (hbl _ _ _)).mono ?_
  rintro e w1 ⟨rfl, hb⟩
  have bel : Below w.heap.size w w1 := (hbl _ _ _).trans (hb.mono (hbl _ _ _).size)
  have bC : w1.heap[w.heap.size]? = some (.cells #[.slice m.p m.l.length m.c, .slice la.p la.l.length la.c, .slice ps.p ps.l.length ps.c] 32 (0, 0)) := (hb.block _ (by simp <;> omega)).trans ((Below.heap_alloc _ _ _ (by simp <;> omega)).trans ((Below.heap_alloc _ _ _ (by simp)).trans (nw_k _ rfl)))
  have bA : w1.heap[w.heap.size + 1]? = some (.cells #[.int .i64 e_0, .int .i64 e_1, .int .i64 e_2] 61 (0, 0)) := (hb.block _ (by simp <;> omega)).trans ((Below.heap_alloc _ _ _ (by simp)).trans (nw_k _ (by simp)))
  have bB : w1.heap[w.heap.size + 1 + 1]? = some (.cells #[.int .i64 f_0, .int .i64 f_1, .int .i64 f_2] 61 (0, 0)) := (hb.block _ (by simp)).trans (nw_k _ (by simp))
  have BEL := Hid.intro bel
  clear hb HBO hbl
  cases hok : busOkP z
  · have HE : Hid (trcApartP z (e_0, e_1, e_2) (f_0, f_1, f_2) = false) := Hid.intro (by unfold trcApartP; rw [hok]; rfl)
    clear bC bA bB
    go_wp2
    go_ret
    exact ⟨by rw [HE.out]; rfl, BEL.out⟩
  have H30 : ps.l.length = 3 := by rw [HZ.out] at hok; exact busOk_three hok
  obtain ⟨bs, os, hp⟩ : ∃ bs os, ps.p = some ⟨bs, os, none⟩ := rows_at (yBusCfg_law.rd_blw HR.out bel).2.2 H30
  obtain ⟨psp, psc, psl⟩ := ps
  simp only at hp bC H30
  subst hp
  obtain ⟨d1, hd1⟩ : ∃ b, doesP z (e_0, e_1, e_2) = b := ⟨_, rfl⟩
  obtain ⟨d2, hd2⟩ : ∃ b, doesP z (f_0, f_1, f_2) = b := ⟨_, rfl⟩
  have HDA : Hid (∀ W, Below w1.heap.size w1 W → Calls Try.prog 80 #[.agg #[.slice m.p m.l.length m.c, .slice la.p la.l.length la.c, .slice (some ⟨bs, os, none⟩) psl.length psc], .agg #[.int .i64 e_0, .int .i64 e_1, .int .i64 e_2]] W fun e w' => e = .returned (.bool d1) ∧ Below W.heap.size W w') := Hid.intro (fun W hW => by
    rw [← hd1, HZ.out]; exact trcIsKind_any m la bs os psc psl e_0 e_1 e_2 W (yBusCfg_law.rd_blw HR.out (bel.trans (hW.mono bel.size))) H30)
  have HDB : Hid (∀ W, Below w1.heap.size w1 W → Calls Try.prog 80 #[.agg #[.slice m.p m.l.length m.c, .slice la.p la.l.length la.c, .slice (some ⟨bs, os, none⟩) psl.length psc], .agg #[.int .i64 f_0, .int .i64 f_1, .int .i64 f_2]] W fun e w' => e = .returned (.bool d2) ∧ Below W.heap.size W w') := Hid.intro (fun W hW => by
    rw [← hd2, HZ.out]; exact trcIsKind_any m la bs os psc psl f_0 f_1 f_2 W (yBusCfg_law.rd_blw HR.out (bel.trans (hW.mono bel.size))) H30)
  have HAP : Hid (d1 = true → d2 = true → ∀ W, Below w1.heap.size w1 W → Calls Try.prog 81 #[.agg #[.slice m.p m.l.length m.c, .slice la.p la.l.length la.c, .slice (some ⟨bs, os, none⟩) psl.length psc], .agg #[.int .i64 e_0, .int .i64 e_1, .int .i64 e_2], .agg #[.int .i64 f_0, .int .i64 f_1, .int .i64 f_2]] W fun e w' => e = .returned (.bool (apartP z (e_0, e_1, e_2) (f_0, f_1, f_2))) ∧ Below W.heap.size W w') := Hid.intro (fun g1 g2 W hW => by
    rw [HZ.out] at hok hd1 hd2 ⊢
    exact trcAreApart_any m la bs os psc psl e_0 e_1 e_2 f_0 f_1 f_2 W (yBusCfg_law.rd_blw HR.out (bel.trans (hW.mono bel.size))) hok (hd1.trans g1) (hd2.trans g2))
  have HT : Hid (trcApartP z (e_0, e_1, e_2) (f_0, f_1, f_2) = (d1 && (d2 && apartP z (e_0, e_1, e_2) (f_0, f_1, f_2)))) := Hid.intro (by unfold trcApartP; rw [hok, hd1, hd2]; rfl)
  have cC0 : w1.cell? ⟨w.heap.size, 0, none⟩ = some (.slice m.p m.l.length m.c) := heap_cell bC 0
  have cC1 : w1.cell? ⟨w.heap.size, 1, none⟩ = some (.slice la.p la.l.length la.c) := heap_cell bC 1
  have cC2 : w1.cell? ⟨w.heap.size, 2, none⟩ = some (.slice (some ⟨bs, os, none⟩) psl.length psc) := heap_cell bC 2
  have cA0 : w1.cell? ⟨w.heap.size + 1, 0, none⟩ = some (.int .i64 e_0) := heap_cell bA 0
  have cA1 : w1.cell? ⟨w.heap.size + 1, 1, none⟩ = some (.int .i64 e_1) := heap_cell bA 1
  have cA2 : w1.cell? ⟨w.heap.size + 1, 2, none⟩ = some (.int .i64 e_2) := heap_cell bA 2
  have cB0 : w1.cell? ⟨w.heap.size + 1 + 1, 0, none⟩ = some (.int .i64 f_0) := heap_cell bB 0
  have cB1 : w1.cell? ⟨w.heap.size + 1 + 1, 1, none⟩ = some (.int .i64 f_1) := heap_cell bB 1
  have cB2 : w1.cell? ⟨w.heap.size + 1 + 1, 2, none⟩ = some (.int .i64 f_2) := heap_cell bB 2
  obtain ⟨ap, hap⟩ : ∃ b, b = apartP z (e_0, e_1, e_2) (f_0, f_1, f_2) := ⟨_, rfl⟩
  rw [← hap] at HAP HT
  have HOLD : Hid (∀ W, Below w1.heap.size w1 W → W.heap[w.heap.size]? = some (.cells #[.slice m.p m.l.length m.c, .slice la.p la.l.length la.c, .slice (some ⟨bs, os, none⟩) psl.length psc] 32 (0, 0)) ∧ W.heap[w.heap.size + 1]? = some (.cells #[.int .i64 e_0, .int .i64 e_1, .int .i64 e_2] 61 (0, 0)) ∧ W.heap[w.heap.size + 1 + 1]? = some (.cells #[.int .i64 f_0, .int .i64 f_1, .int .i64 f_2] 61 (0, 0))) := Hid.intro (fun W hW => ⟨(hW.block _ (heap_lt bC)).trans bC, (hW.block _ (heap_lt bA)).trans bA, (hW.block _ (heap_lt bB)).trans bB⟩)
  clear bC bA bB bel hd1 hd2 hap hok H30
  go_wp2_with fail
  refine (HDA.out w1 (Below.refl _ _)).mono ?_
  rintro e w2 ⟨rfl, hb2⟩
  have HB2 := Hid.intro hb2
  clear hb2 HDA cC0 cC1 cC2 cA0 cA1 cA2 cB0 cB1 cB2
  cases d1
  · clear HDB HAP HOLD
    go_wp2
    go_ret
    exact ⟨by rw [HT.out]; rfl, BEL.out.trans (HB2.out.mono BEL.out.size)⟩
  have cC0 : w2.cell? ⟨w.heap.size, 0, none⟩ = some (.slice m.p m.l.length m.c) := heap_cell (HOLD.out w2 HB2.out).1 0
  have cC1 : w2.cell? ⟨w.heap.size, 1, none⟩ = some (.slice la.p la.l.length la.c) := heap_cell (HOLD.out w2 HB2.out).1 1
  have cC2 : w2.cell? ⟨w.heap.size, 2, none⟩ = some (.slice (some ⟨bs, os, none⟩) psl.length psc) := heap_cell (HOLD.out w2 HB2.out).1 2
  have cA0 : w2.cell? ⟨w.heap.size + 1, 0, none⟩ = some (.int .i64 e_0) := heap_cell (HOLD.out w2 HB2.out).2.1 0
  have cA1 : w2.cell? ⟨w.heap.size + 1, 1, none⟩ = some (.int .i64 e_1) := heap_cell (HOLD.out w2 HB2.out).2.1 1
  have cA2 : w2.cell? ⟨w.heap.size + 1, 2, none⟩ = some (.int .i64 e_2) := heap_cell (HOLD.out w2 HB2.out).2.1 2
  have cB0 : w2.cell? ⟨w.heap.size + 1 + 1, 0, none⟩ = some (.int .i64 f_0) := heap_cell (HOLD.out w2 HB2.out).2.2 0
  have cB1 : w2.cell? ⟨w.heap.size + 1 + 1, 1, none⟩ = some (.int .i64 f_1) := heap_cell (HOLD.out w2 HB2.out).2.2 1
  have cB2 : w2.cell? ⟨w.heap.size + 1 + 1, 2, none⟩ = some (.int .i64 f_2) := heap_cell (HOLD.out w2 HB2.out).2.2 2
  go_wp2_with fail
  refine (HDB.out w2 HB2.out).mono ?_
  rintro e w3 ⟨rfl, hb3⟩
  have HB3 := Hid.intro (HB2.out.trans (hb3.mono HB2.out.size))
  clear hb3 HDB HB2 cC0 cC1 cC2 cA0 cA1 cA2 cB0 cB1 cB2
  cases d2
  · clear HAP HOLD
    go_wp2
    go_ret
    exact ⟨by rw [HT.out]; rfl, BEL.out.trans (HB3.out.mono BEL.out.size)⟩
  have cC0 : w3.cell? ⟨w.heap.size, 0, none⟩ = some (.slice m.p m.l.length m.c) := heap_cell (HOLD.out w3 HB3.out).1 0
  have cC1 : w3.cell? ⟨w.heap.size, 1, none⟩ = some (.slice la.p la.l.length la.c) := heap_cell (HOLD.out w3 HB3.out).1 1
  have cC2 : w3.cell? ⟨w.heap.size, 2, none⟩ = some (.slice (some ⟨bs, os, none⟩) psl.length psc) := heap_cell (HOLD.out w3 HB3.out).1 2
  have cA0 : w3.cell? ⟨w.heap.size + 1, 0, none⟩ = some (.int .i64 e_0) := heap_cell (HOLD.out w3 HB3.out).2.1 0
  have cA1 : w3.cell? ⟨w.heap.size + 1, 1, none⟩ = some (.int .i64 e_1) := heap_cell (HOLD.out w3 HB3.out).2.1 1
  have cA2 : w3.cell? ⟨w.heap.size + 1, 2, none⟩ = some (.int .i64 e_2) := heap_cell (HOLD.out w3 HB3.out).2.1 2
  have cB0 : w3.cell? ⟨w.heap.size + 1 + 1, 0, none⟩ = some (.int .i64 f_0) := heap_cell (HOLD.out w3 HB3.out).2.2 0
  have cB1 : w3.cell? ⟨w.heap.size + 1 + 1, 1, none⟩ = some (.int .i64 f_1) := heap_cell (HOLD.out w3 HB3.out).2.2 1
  have cB2 : w3.cell? ⟨w.heap.size + 1 + 1, 2, none⟩ = some (.int .i64 f_2) := heap_cell (HOLD.out w3 HB3.out).2.2 2
  go_wp2_with fail
  refine (HAP.out (by simp) (by simp) w3 HB3.out).mono ?_
  rintro e w4 ⟨rfl, hb4⟩
  have HB4 := Hid.intro (HB3.out.trans (hb4.mono HB3.out.size))
  clear hb4 HAP HB3 HOLD cC0 cC1 cC2 cA0 cA1 cA2 cB0 cB1 cB2
  go_wp2
  go_ret
  exact ⟨by rw [HT.out]; rfl, BEL.out.trans (HB4.out.mono BEL.out.size)⟩

theorem spec_TrcApartK (c : ((Lst (Int × Int × Int × Bool)) × (Lst Int) × (Lst (Lst (Int × Int × Int × Int × Bool × (Lst Int) × (Lst Int)))))) (a b : Int × Int × Int) (w : World) (h : yBusCfg.rd w c) (_ : yBusCfg.size c ≤ 1048576) :
    Calls Try.prog 25 #[yBusCfg.val c, yTlmEvent.val a, yTlmEvent.val b] w fun e w' => e = .returned (.bool (trcApartP (yBusCfg.pl c) a b)) ∧ Below w.heap.size w w' := spec_TrcApart c a b w h
theorem impl_TrcApartK (hI : ReqOkC) (c : ((Lst (Int × Int × Int × Bool)) × (Lst Int) × (Lst (Lst (Int × Int × Int × Int × Bool × (Lst Int) × (Lst Int)))))) (a b : Int × Int × Int) (w : World) (h : yBusCfg.rd w c) (_ : yBusCfg.size c ≤ 1048576) :
    Calls Try.prog 27 #[yBusCfg.val c, yTlmEvent.val a, yTlmEvent.val b] w fun e w' => e = .returned (.bool (trcApartP (yBusCfg.pl c) a b)) ∧ Below w.heap.size w w' := impl_TrcApart hI c a b w h

end Go.Proofs.Ytgjlkmhbaimjpaa
