/-
  AtmOk, AtmNew, and small helpers, of the program.
-/
import Derived.Test.YtlifkfemdknndaaSpcDM
import Derived.Test.YtlifkfemdknndaaAllAre
import Derived.Test.YtlifkfemdknndaaMapCM
namespace Go.Proofs.Ytlifkfemdknndaa
open Go.RowKit
set_option linter.unusedSimpArgs false
set_option linter.unusedVariables false

theorem holdOk_any (a : Int) (w : World) :
    Calls Try.prog 96 #[.int .i64 a] w fun e w' => e = .returned (.bool (inB a (-1) 63)) ∧ w' = w := by
  by_cases h : a = -1
  · subst h
    go_enter Try.func96, Try.ntmps96
    go_wp2
    go_ret
    exact ⟨rfl, rfl⟩
  · have hq : (a == -1) = false := by simpa using h
    have HE := Hid.intro (show inB a (-1) 63 = inB a 0 63 by unfold inB; rw [decide_eq_decide]; omega)
    go_enter Try.func96, Try.ntmps96
    go_wp2_with (go_at_call 69; refine (adr_ok_any _ _).mono ?_; rintro e w' ⟨rfl, rfl⟩)
    go_ret
    exact ⟨by rw [HE.out]; rfl, rfl⟩

set_option maxRecDepth 100000 in
set_option maxHeartbeats 1000000 in
theorem allAre_h (p : Option Addr) (cap : Nat) (xs : List Int) (w : World) (hp : IntsAt w p xs) (h1 : xs.length ≤ cap) (h2 : cap ≤ 9223372036854775807) :
    Calls Try.prog 30 #[.slice p xs.length cap, .func (.func 96) #[] #[]] w fun e w' => e = .returned (.bool (allIn xs (-1) 63)) ∧ w' = w := by
  have HP := Hid.intro hp
  clear hp
  go_enter Try.func30, Try.ntmps30
  go_wp2
  go_loopw [9] (fun i wr => ∃ k : Nat, k ≤ xs.length ∧ i = .int .i64 k ∧ wr = w ∧ Hid (allIn (xs.take k) (-1) 63 = true)) (fun i _ => xs.length - (intOf i).toNat)
  case atStart => exact ⟨0, Nat.zero_le _, rfl, rfl, rfl⟩
  case round =>
    obtain ⟨k, hk, rfl, rfl, HF⟩ := hrel
    by_cases hlt : k < xs.length
    · rcases HP.out with hx | ⟨b, off, rfl, hb, hcells⟩
      · subst hx; simp at hlt
      have hk0 : (0 : Int) ≤ (k : Int) := by omega
      have hk1 : (k : Int) < (xs.length : Int) := by omega
      have hc1 := hcells k hlt
      clear hcells HP
      cases hb : inB xs[k] (-1) 63
      · have HN := Hid.intro (allIn_hit hlt hb)
        go_wp2_with (go_at_call 96; refine (holdOk_any _ _).mono ?_; rintro e w' ⟨rfl, rfl⟩)
        go_ret
        exact ⟨by rw [HN.out]; rfl, rfl⟩
      · have HN := Hid.intro (allIn_step hlt HF.out hb)
        go_wp2_with (go_at_call 96; refine (holdOk_any _ _).mono ?_; rintro e w' ⟨rfl, rfl⟩)
        go_roundw
        case rel => exact ⟨k + 1, by omega, by go_num, by simp, HN⟩
        case measure => simp [intOf]; omega
    · have HN := Hid.intro (allIn_end (show xs.length ≤ k by omega) HF.out)
      go_wp2
      go_ret
      exact ⟨by rw [HN.out]; rfl, rfl⟩

set_option maxRecDepth 100000 in
set_option maxHeartbeats 1000000 in
theorem impl_AtmOk : AtmOkC := by
  intro s pw ph cw ch w h
  have hbl : ∀ o, Below w.heap.size w (w.alloc o) := fun o => (Below.refl _ w).alloc (Nat.le_refl _) o
  have HE := Hid.intro (stOk_eq s)
  have HA := Hid.intro h
  clear h
  unfold stV
  go_enter Try.func80, Try.ntmps80
  go_wp2_with fail
  refine (impl_MemOk pw cw s.words _ (HA.out.below (hbl _)).words HA.out.cw1 HA.out.cw2).mono ?_
  rintro e w1 ⟨rfl, hb1⟩
  have hs1 := hb1.size
  simp at hs1
  have c1 : w1.cell? ⟨w.heap.size, 1, none⟩ = some (.slice ph s.holds.length ch) := (hb1.cell (p := ⟨w.heap.size, 1, none⟩) (by simp)).trans (by simp)
  have hb1' := (hbl _).trans (hb1.mono (hbl _).size)
  have HA1 := Hid.intro (HA.out.below hb1')
  clear hb1 HA
  cases h1 : memOkB s.words
  · go_wp2
    go_ret
    exact ⟨by rw [HE.out, h1]; rfl, hb1'⟩
  cases h2 : ((s.holds.length : Int) == 6)
  · go_wp2
    go_ret
    exact ⟨by rw [HE.out, h1, h2]; rfl, hb1'⟩
  go_wp2_with fail
  refine (allAre_h ph ch s.holds w1 HA1.out.holds HA1.out.ch1 HA1.out.ch2).mono ?_
  rintro e w2 ⟨rfl, hw⟩
  subst hw
  go_wp2
  go_ret
  exact ⟨by rw [HE.out, h1, h2]; rfl, hb1'⟩

theorem holderAt_any (p : Int) (w : World) (h0 : 0 ≤ p) (h1 : p ≤ 5) :
    Calls Try.prog 81 #[.int .i64 p] w fun e w' => e = .returned (.agg #[.int .i64 (p / 2), .int .i64 (p % 2)]) ∧ Below w.heap.size w w' := by
  have hbl : ∀ o, Below w.heap.size w (w.alloc o) := fun o => (Below.refl _ w).alloc (Nat.le_refl _) o
  have hd : p.tdiv 2 = p / 2 := Int.tdiv_eq_ediv_of_nonneg h0
  have hm : p.tmod 2 = p % 2 := Int.tmod_eq_emod_of_nonneg h0
  go_enter Try.func81, Try.ntmps81
  go_wp2
  refine bodyPost_ret (v := .agg #[.int .i64 (p / 2), .int .i64 (p % 2)]) (by simp [results, Try.results81, go_sem]) rfl ⟨rfl, ?_⟩
  exact hbl _

theorem whoOk_any (a : Int) (w : World) :
    Calls Try.prog 38 #[.int .i64 a] w fun e w' => e = .returned (.bool (inB a 0 2)) ∧ w' = w := by
  by_cases h : 0 ≤ a
  · by_cases h2 : a < 3
    · have HE := Hid.intro (inB_t (n := a) (lo := 0) (hi := 2) ⟨h, by omega⟩)
      go_enter Try.func38, Try.ntmps38
      go_wp2
      go_ret
      exact ⟨by rw [HE.out]; rfl, rfl⟩
    · have HE := Hid.intro (inB_f (n := a) (lo := 0) (hi := 2) (by omega))
      go_enter Try.func38, Try.ntmps38
      go_wp2
      go_ret
      exact ⟨by rw [HE.out]; rfl, rfl⟩
  · have HE := Hid.intro (inB_f (n := a) (lo := 0) (hi := 2) (by omega))
    go_enter Try.func38, Try.ntmps38
    go_wp2
    go_ret
    exact ⟨by rw [HE.out]; rfl, rfl⟩

set_option maxRecDepth 100000 in
set_option maxHeartbeats 1000000 in
theorem mayBegin_any (a : Option Addr) (cap : Nat) (ms : List Rng) (s : Stt) (pw ph : Option Addr) (cw ch : Nat) (who : Int) (w : World)
    (hm : RowOf w a ms) (hc : ms.length ≤ cap) (hc' : cap ≤ 9223372036854775807) (h : StAt w s pw cw ph ch) :
    Calls Try.prog 52 #[.slice a ms.length cap, stV s pw cw ph ch, .int .i64 who] w fun e w' => e = .returned (.bool (mapOkB ms && (stOkB s && inB who 0 2))) ∧ Below w.heap.size w w' := by
  have hbl : ∀ o, Below w.heap.size w (w.alloc o) := fun o => (Below.refl _ w).alloc (Nat.le_refl _) o
  have HA := Hid.intro h
  have HM := Hid.intro hm
  have HK := Hid.intro (fun W hW => impl_AtmOk s pw ph cw ch W hW)
  clear h hm
  unfold stV at HK ⊢
  go_enter Try.func52, Try.ntmps52
  go_wp2_with fail
  refine (impl_MapOk a cap ms _ (HM.out.below (hbl _)) hc hc').mono ?_
  rintro e w1 ⟨rfl, hb1⟩
  have hs1 := hb1.size
  simp at hs1
  have c0 : w1.cell? ⟨w.heap.size, 0, none⟩ = some (.slice pw s.words.length cw) := (hb1.cell (p := ⟨w.heap.size, 0, none⟩) (by simp)).trans (by simp)
  have c1 : w1.cell? ⟨w.heap.size, 1, none⟩ = some (.slice ph s.holds.length ch) := (hb1.cell (p := ⟨w.heap.size, 1, none⟩) (by simp)).trans (by simp)
  have hb1' := (hbl _).trans (hb1.mono (hbl _).size)
  clear hb1
  cases h1 : mapOkB ms
  · go_wp2
    go_ret
    exact ⟨by simp [h1], hb1'⟩
  go_wp2_with fail
  refine (HK.out w1 (HA.out.below hb1')).mono ?_
  rintro e w2 ⟨rfl, hb2⟩
  have hb2' := hb1'.trans (hb2.mono hb1'.size)
  clear hb2
  cases h2 : stOkB s
  · go_wp2
    go_ret
    exact ⟨by simp [h1, h2], hb2'⟩
  go_wp2_with (go_at_call 38; refine (whoOk_any _ _).mono ?_; rintro e w' ⟨rfl, rfl⟩)
  go_ret
  exact ⟨by simp [h1, h2], hb2'⟩

/-- nothing is held -/
def freeH (n : Nat) : List Int := List.replicate n (-1)
/-- k of n are so -/
def mixN (n k : Nat) : List Int := freeH k ++ noughts (n - k)
theorem mixN_len {n k : Nat} (h : k ≤ n) : (mixN n k).length = n := by simp [mixN, freeH, noughts]; omega
theorem mixN_zero (n : Nat) : mixN n 0 = noughts n := by simp [mixN, freeH]
theorem mixN_all (n : Nat) : mixN n n = freeH n := by simp [mixN, noughts]
theorem mixN_step {n k : Nat} (h : k < n) : (mixN n k).set k (-1) = mixN n (k + 1) := by
  have hl : (freeH k).length = k := by simp [freeH]
  have e : noughts (n - k) = 0 :: noughts (n - (k + 1)) := by
    rw [show n - k = (n - (k + 1)) + 1 by omega]; simp [noughts, List.replicate_succ]
  unfold mixN
  rw [e, List.set_append_right _ _ (by omega), hl, Nat.sub_self]
  simp [freeH, List.replicate_succ', List.append_assoc]

set_option maxRecDepth 100000 in
set_option maxHeartbeats 1000000 in
theorem impl_AtmNew (w : World) : Calls Try.prog 82 #[] w fun e w' => ∃ g g', e = .returned (.agg #[.slice (some ⟨g, 0, none⟩) 64 64, .slice (some ⟨g', 0, none⟩) 6 6]) ∧ ORow 3 1 w' g 64 64 ((noughts 64).map (Value.int .i64)) ∧ ORow 3 1 w' g' 6 6 ((freeH 6).map (Value.int .i64)) ∧ w.heap.size ≤ g ∧ w.heap.size ≤ g' ∧ g ≠ g' ∧ Below w.heap.size w w' := by
  have hmk : ∀ W : World, (Instr.makeSlice 24 (.int .i64 6) (.int .i64 6)).run Try.prog W = _ := fun W => make_ints 6 (by omega) W
  go_enter Try.func82, Try.ntmps82
  go_wp2
  obtain ⟨W0, hW0⟩ : ∃ W0, (w.alloc (.cells #[.slice none 0 0, .slice none 0 0] 45)).alloc (.cells ((noughts 6).map (Value.int .i64)).toArray 3) = W0 := ⟨_, rfl⟩
  have hb0 : Below w.heap.size w W0 := by rw [← hW0]; exact ((Below.refl _ w).alloc (Nat.le_refl _) _).alloc (by simp) _
  have hs0 : W0.heap.size = w.heap.size + 2 := by rw [← hW0]; simp
  have hR0 : W0.heap[w.heap.size]? = some (.cells #[.slice none 0 0, .slice none 0 0] 45 (0, 0)) := by rw [← hW0]; exact (Below.heap_alloc _ _ _ (by simp)).trans (nw_at _ rfl)
  have hO0 : ORow 3 1 W0 (w.heap.size + 1) 6 6 ((noughts 6).map (Value.int .i64)) := by
    rw [← hW0]
    have := ORow.new (w := w.alloc (.cells #[.slice none 0 0, .slice none 0 0] 45)) (l := noughts 6)
    simpa [noughts] using this
  try rw [hW0]
  clear hW0 hmk
  go_loopw [6] (fun i wr => ∃ k : Nat, k ≤ 6 ∧ i = .int .i64 k ∧ Hid (ORow 3 1 wr (w.heap.size + 1) 6 6 ((mixN 6 k).map (Value.int .i64))) ∧ Hid (Below w.heap.size w wr) ∧ wr.heap[w.heap.size]? = some (.cells #[.slice none 0 0, .slice none 0 0] 45 (0, 0))) (fun i _ => 6 - (intOf i).toNat)
  case atStart => exact ⟨0, by omega, rfl, hO0, hb0, hR0⟩
  case round =>
    obtain ⟨k, hk, rfl, HO, HB, hR⟩ := hrel
    by_cases hlt : k < 6
    · have hk0 : (0 : Int) ≤ (k : Int) := by omega
      have hk1 : (k : Int) < 6 := by omega
      have hml := mixN_len (n := 6) (k := k) hk
      obtain ⟨v, hv⟩ : ∃ v, (mixN 6 k)[k]? = some v := ⟨(mixN 6 k)[k]'(by omega), by rw [List.getElem?_eq_getElem]⟩
      have ch1 : wr.cell? ⟨w.heap.size + 1, k, none⟩ = some (.int .i64 v) := HO.out.get k _ (by simp [hv])
      have fh1 := HO.out.free k
      have HS := Hid.intro (HO.out.set k hlt (-1))
      rw [mixN_step hlt] at HS
      clear HO hv
      go_wp2
      go_roundw
      case rel => exact ⟨k + 1, by omega, by go_num, HS, HB.out.setCell (p := ⟨w.heap.size + 1, k, none⟩) (by show w.heap.size ≤ w.heap.size + 1; omega) _, (heap_set_ne (by omega)).trans hR⟩
      case measure => simp [intOf]; omega
    · have hk' : k = 6 := by omega
      subst hk'
      have hO := HO.out
      rw [mixN_all] at hO
      have hOl := hO.lt
      have hRl := heap_lt hR
      go_wp2_with fail
      refine (impl_MemNew wr).mono ?_
      rintro e w1 ⟨g, rfl, hg1, hg2, hb1⟩
      have hR1 := (hb1.block w.heap.size hRl).trans hR
      have r0 : w1.cell? ⟨w.heap.size, 0, none⟩ = some (.slice none 0 0) := heap_cell hR1 0
      have r1 : w1.cell? ⟨w.heap.size, 1, none⟩ = some (.slice none 0 0) := heap_cell hR1 1
      have f0 := heap_free hR1 0
      have f1 := heap_free hR1 1
      have hR2 := heap_set (heap_set hR1 0 (.slice (some ⟨g, 0, none⟩) 64 64)) 1 (.slice (some ⟨w.heap.size + 1, 0, none⟩) 6 6)
      have s0 := (heap_cell hR2 0)
      have s1 := (heap_cell hR2 1)
      simp at s0 s1
      have HO2 := Hid.intro (hO.of (hb1.block _ hOl))
      have HG := Hid.intro hg1
      have HB1 := Hid.intro (HB.out.trans (hb1.mono HB.out.size))
      clear hR2 hR1 hR hO HO hg1 hb1 HB
      go_wp2
      refine bodyPost_ret (v := .agg #[.slice (some ⟨g, 0, none⟩) 64 64, .slice (some ⟨w.heap.size + 1, 0, none⟩) 6 6]) (by simp [results, Try.results82, go_sem, s0, s1]) rfl ⟨g, w.heap.size + 1, rfl, ?_, ?_, by omega, by omega, by omega, ?_⟩
      · exact HG.out.of ((heap_set_ne (by omega)).trans (heap_set_ne (by omega)))
      · exact HO2.out.of ((heap_set_ne (by omega)).trans (heap_set_ne (by omega)))
      · exact (HB1.out.setCell (p := ⟨w.heap.size, 0, none⟩) (Nat.le_refl _) _).setCell (p := ⟨w.heap.size, 1, none⟩) (Nat.le_refl _) _

end Go.Proofs.Ytlifkfemdknndaa
