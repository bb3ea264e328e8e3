/-
  TrcOf of program and model.
-/
import Derived.Test.YtgjlkmhbaimjpaaKTlmEvent
import Derived.Test.YtgjlkmhbaimjpaaKndA
namespace Go.Proofs.Ytgjlkmhbaimjpaa
open Go.RowKit
set_option linter.unusedSimpArgs false
set_option linter.unusedVariables false

/-- what happens of one -/
def trcP (l : List (Int × Int × Int)) (who : Int) : List (Int × Int × Int) := l.filter (fun x => x.2.1 == who)
theorem trcP_step {l : List (Int × Int × Int)} {k : Nat} (hk : k < l.length) (who : Int) : trcP ((l.take (k + 1)).map yTlmEvent.pl) who = trcP ((l.take k).map yTlmEvent.pl) who ++ (if l[k].2.1 == who then [yTlmEvent.pl l[k]] else []) := by
  unfold trcP
  rw [List.take_succ_eq_append_getElem hk, List.map_append, List.filter_append]
  congr 1
  show List.filter _ [yTlmEvent.pl l[k]] = _
  have e : (yTlmEvent.pl l[k]).2.1 = l[k].2.1 := rfl
  by_cases h : (l[k].2.1 == who) = true
  · simp [List.filter, e, h]
  · simp only [Bool.not_eq_true] at h
    simp [List.filter, e, h]

/-- what happened of one so far: a row of its own, or none -/
structure TrcSt (l : List (Int × Int × Int)) (who : Int) (B : Nat) (w : World) (k : Nat) (p : Option Addr) (c : Nat) (zs : List (Int × Int × Int)) : Prop where
  pl : zs.map yTlmEvent.pl = trcP ((l.take k).map yTlmEvent.pl) who
  size : zs.length ≤ k
  row : RowN 61 3 w p c zs.length (zs.flatMap yTlmEvent.cells)
  new : ∀ b, p = some ⟨b, 0, none⟩ → B ≤ b
theorem fresh_ev {E : Nat} {w : World} {B c : Nat} {p : Option Addr} {zs : List (Int × Int × Int)} (h : RowN E 3 w p c zs.length (zs.flatMap yTlmEvent.cells)) (hn : ∀ b, p = some ⟨b, 0, none⟩ → B ≤ b) : Fresh (gLst E yTlmEvent) B w ⟨p, c, zs⟩ := by
  rcases h with ⟨rfl, rfl, h3, _⟩ | ⟨g, rfl, hO, hc⟩
  · have : zs = [] := List.length_eq_zero_iff.1 h3
    subst this
    exact ⟨⟨Nat.le_refl _, by simp, .inl rfl, fun _ h => by simp at h⟩, by simp [gLst, blk], fun b hb => by simp [gLst, blk] at hb⟩
  · have hcl : zs.length ≤ c := by obtain ⟨_, _, _, h, _⟩ := hO; exact h
    have hf : (gLst E yTlmEvent).foot ⟨some ⟨g, 0, none⟩, c, zs⟩ = blk (⟨some ⟨g, 0, none⟩, c, zs⟩ : Lst (Int × Int × Int)) := by
      show blk _ ++ zs.flatMap (fun _ => []) = _
      simp
    refine ⟨⟨hcl, by unfold maxLen at hc; exact hc, .inr ⟨g, rfl, hO⟩, fun _ _ => ⟨trivial, trivial, trivial⟩⟩, ?_, ?_⟩
    · rw [hf]; unfold blk; split <;> simp
    · rw [hf]
      intro b hb
      by_cases h0 : zs = []
      · rw [blk_nil h0] at hb; simp at hb
      · rw [blk_of (a := ⟨some ⟨g, 0, none⟩, c, zs⟩) h0 rfl] at hb
        simp at hb; subst hb; exact hn b rfl

set_option maxRecDepth 100000 in
set_option maxHeartbeats 2000000 in
theorem impl_TrcOf (a : Lst (Int × Int × Int)) (who : Int) (w : World) (hr : yTlmEventS.rd w a) (hs : yTlmEventS.size a ≤ 1048576) :
    Calls Try.prog 31 #[yTlmEventS.val a, .int .i64 who] w fun e w' => ∃ a', e = .returned (yTlmEventS.val a') ∧ yTlmEventS.pl a' = trcP (yTlmEventS.pl a) who ∧ yTlmEventS.size a' ≤ 1048576 ∧ Fresh yTlmEventS w.heap.size w' a' ∧ Below w.heap.size w w' := by
  obtain ⟨p0, c0', l⟩ := a
  have hl1 : l.length ≤ c0' := hr.1
  have hl2 : c0' ≤ 9223372036854775807 := hr.2.1
  have hs' : l.length + (l.map yTlmEvent.size).sum ≤ 1048576 := hs
  have hl3 : l.length ≤ 1048576 := by omega
  have HR := Hid.intro hr
  have HL3 := Hid.intro hl3
  clear hr hs hs'
  obtain ⟨i0, hi, hz0, hz1, hz2⟩ := info_parts Try.infoTlmEventS
  have HI := Hid.intro (And.intro hi (And.intro hz0 (And.intro hz1 hz2)))
  clear hi hz0 hz1 hz2
  show Calls Try.prog 31 #[.slice p0 l.length c0', .int .i64 who] w _
  go_enter Try.func31, Try.ntmps31
  go_wp2
  go_loopw [5, 10] (fun o i wr => ∃ (k : Nat) (p : Option Addr) (c : Nat) (zs : List (Int × Int × Int)), k ≤ l.length ∧ i = .int .i64 k ∧ o = .slice p zs.length c ∧ Below w.heap.size w wr ∧ Hid (TrcSt l who w.heap.size wr k p c zs)) (fun _ i _ => l.length - (intOf i).toNat)
  case atStart => exact ⟨0, none, 0, [], Nat.zero_le _, rfl, rfl, Below.refl _ _, Hid.intro ⟨rfl, Nat.le_refl _, .inl ⟨rfl, rfl, rfl, rfl⟩, (fun b e => by cases e)⟩⟩
  case round =>
    obtain ⟨k, p, c, zs, hk, rfl, rfl, hbl, HM⟩ := hrel
    by_cases hlt : k < l.length
    · have hp := yTlmEventS_law.rd_blw HR.out hbl
      have hk0 : (0 : Int) ≤ (k : Int) := by omega
      have hk1 : (k : Int) < (l.length : Int) := by omega
      have hc : ∃ b off, p0 = some ⟨b, off, none⟩ ∧ b < wr.heap.size ∧ ∀ (j : Nat) (v : Value), (yTlmEvent.cells l[k])[j]? = some v → wr.cell? ⟨b, off + k * 3 + j, none⟩ = some v := by
        rcases hp.2.2.1 with h0 | ⟨b, off, e, hb, hc⟩
        · have h0 : l = [] := h0
          subst h0; simp at hlt
        · exact ⟨b, off, e, hb, fun j v hv => hc k hlt j v hv⟩
      obtain ⟨b, off, rfl, hb, hc⟩ := hc
      have hstp := trcP_step hlt who
      clear hp
      generalize l[k] = q at hc hstp
      obtain ⟨q_0, q_1, q_2⟩ := q
      have c0 : wr.cell? ⟨b, off + k * 3, none⟩ = some (.int .i64 q_0) := hc 0 _ rfl
      have c1 : wr.cell? ⟨b, off + k * 3 + 1, none⟩ = some (.int .i64 q_1) := hc 1 _ rfl
      have c2 : wr.cell? ⟨b, off + k * 3 + 2, none⟩ = some (.int .i64 q_2) := hc 2 _ rfl
      have hs := hbl.size
      have HST := Hid.intro hstp
      clear hc hstp
      by_cases hw : q_1 = who
      · have hw' := hw.symm
        subst hw'
        have gr := (Below.refl wr.heap.size wr).alloc (Nat.le_refl _) (.cells #[.int .i64 q_0, .int .i64 who, .int .i64 q_2] 61)
        have gr2 := gr.alloc (by simp) (.cells #[.int .i64 q_0, .int .i64 who, .int .i64 q_2] 61)
        have HRW := Hid.intro (HM.out.row.of (fun x e hx => gr2.block x hx))
        have HG := Hid.intro gr2
        have HY : Hid (∀ (j : Nat) (v : Value), (yTlmEvent.cells (q_0, who, q_2))[j]? = some v → ((wr.alloc (.cells #[.int .i64 q_0, .int .i64 who, .int .i64 q_2] 61)).alloc (.cells #[.int .i64 q_0, .int .i64 who, .int .i64 q_2] 61)).cell? ⟨wr.heap.size + 1, j, none⟩ = some v) := Hid.intro (fun j v hv => by
          have hb : ((wr.alloc (.cells #[.int .i64 q_0, .int .i64 who, .int .i64 q_2] 61)).alloc (.cells #[.int .i64 q_0, .int .i64 who, .int .i64 q_2] 61)).heap[wr.heap.size + 1]? = some (.cells #[.int .i64 q_0, .int .i64 who, .int .i64 q_2] 61 (0, 0)) := nw_k _ (by simp)
          rw [heap_cell hb j]
          rw [yTlmEvent_cells] at hv
          simpa using hv)
        have hzl : zs.length ≤ 2000000 := by have h1 := HM.out.size; have h2 := HL3.out; omega
        clear gr gr2
        go_wp2_with (at_builtin; refine wpList_appK (z := .agg #[.int .i64 0, .int .i64 0, .int .i64 0]) yTlmEvent_law Try.underlying66 HI.out.1 HI.out.2.1 HI.out.2.2.1 HI.out.2.2.2 rfl (by decide) zs (q_0, who, q_2) rfl rfl rfl rfl HRW.out rfl HY.out hzl ?_; intro g' cap' w2 hO hcap hor hkp; have HH := Hid.intro (And.intro hO (And.intro hcap (And.intro hor hkp))); clear hO hcap hor hkp)
        have hb2 : Below w.heap.size w w2 := old_keptK hbl HG.out HH.out.2.2.2 (fun x e => HM.out.new x e) hs
        have HM2 : Hid (TrcSt l who w.heap.size w2 (k + 1) (some ⟨g', 0, none⟩) cap' (zs ++ [(q_0, who, q_2)])) := Hid.intro (by
          have hsz := HG.out.size
          refine ⟨?_, ?_, .inr ⟨g', rfl, (by have h := HH.out.1; rw [show zs.length + 1 = (zs ++ [(q_0, who, q_2)]).length by simp] at h; exact h), HH.out.2.1⟩, fun x e => ?_⟩
          · rw [HST.out, List.map_append, HM.out.pl]
            simp
          · have h1 := HM.out.size
            simp only [List.length_append, List.length_cons, List.length_nil]
            omega
          · cases e
            rcases HH.out.2.2.1 with h | h
            · exact HM.out.new g' h
            · omega)
        clear HH HG HY HRW HST HM hbl
        go_roundw
        case rel => exact ⟨k + 1, some ⟨g', 0, none⟩, cap', zs ++ [(q_0, who, q_2)], by omega, by go_num, by simp, hb2, HM2⟩
        case measure => simp [intOf]; omega
      · have gr := (Below.refl wr.heap.size wr).alloc (Nat.le_refl _) (.cells #[.int .i64 q_0, .int .i64 q_1, .int .i64 q_2] 61)
        have hb2 := hbl.trans (gr.mono hs)
        have HM2 : Hid (TrcSt l who w.heap.size (wr.alloc (.cells #[.int .i64 q_0, .int .i64 q_1, .int .i64 q_2] 61)) (k + 1) p c zs) := Hid.intro ⟨by
            rw [HST.out, HM.out.pl]; simp [hw], Nat.le_succ_of_le HM.out.size, HM.out.row.of (fun x e hx => gr.block x hx), HM.out.new⟩
        clear gr HST HM hbl
        go_wp2
        go_roundw
        case rel => exact ⟨k + 1, p, c, zs, by omega, by go_num, rfl, hb2, HM2⟩
        case measure => simp [intOf]; omega
    · have hk' : k = l.length := by omega
      have HF : Hid (Fresh yTlmEventS w.heap.size wr ⟨p, c, zs⟩) := Hid.intro (fresh_ev HM.out.row HM.out.new)
      have hsz : yTlmEventS.size ⟨p, c, zs⟩ ≤ 1048576 := by
        show zs.length + (zs.map (fun _ => 0)).sum ≤ 1048576
        have h1 := HM.out.size
        have h2 := HL3.out
        rw [sum_zero]
        omega
      have HPL : Hid (yTlmEventS.pl ⟨p, c, zs⟩ = trcP (yTlmEventS.pl ⟨p0, c0', l⟩) who) := Hid.intro (by
        have h1 := HM.out.pl
        rw [hk', List.take_length] at h1
        exact h1)
      have HS2 := Hid.intro hsz
      clear hsz HM
      go_wp2
      go_ret
      exact ⟨⟨p, c, zs⟩, rfl, HPL.out, HS2.out, HF.out, hbl⟩

set_option maxRecDepth 100000 in
set_option maxHeartbeats 2000000 in
theorem spec_TrcOf (a : Lst (Int × Int × Int)) (who : Int) (w : World) (hr : yTlmEventS.rd w a) (hs : yTlmEventS.size a ≤ 1048576) :
    Calls Try.prog 29 #[yTlmEventS.val a, .int .i64 who] w fun e w' => ∃ a', e = .returned (yTlmEventS.val a') ∧ yTlmEventS.pl a' = trcP (yTlmEventS.pl a) who ∧ yTlmEventS.ow w' a' ∧ Below w.heap.size w w' := by
  obtain ⟨p0, c0', l⟩ := a
  have hl1 : l.length ≤ c0' := hr.1
  have hl2 : c0' ≤ 9223372036854775807 := hr.2.1
  have hs' : l.length + (l.map yTlmEvent.size).sum ≤ 1048576 := hs
  have hl3 : l.length ≤ 1048576 := by omega
  have HR := Hid.intro hr
  have HL3 := Hid.intro hl3
  clear hr hs hs'
  obtain ⟨i0, hi, hz0, hz1, hz2⟩ := info_parts Try.infoTlmEventS
  have HI := Hid.intro (And.intro hi (And.intro hz0 (And.intro hz1 hz2)))
  clear hi hz0 hz1 hz2
  show Calls Try.prog 29 #[.slice p0 l.length c0', .int .i64 who] w _
  go_enter Try.func29, Try.ntmps29
  go_wp2
  have HS0 : Hid (TrcSt l who w.heap.size (w.alloc (.cells #[] 61)) 0 (some ⟨w.heap.size, 0, none⟩) 0 []) := Hid.intro ⟨rfl, Nat.le_refl _, .inr ⟨_, rfl, ⟨#[], nw_k _ rfl, rfl, Nat.le_refl _, rfl, rfl⟩, by unfold maxLen; omega⟩, fun b e => by cases e; exact Nat.le_refl _⟩
  go_loopw [5, 6] (fun o i wr => ∃ (k : Nat) (p : Option Addr) (c : Nat) (zs : List (Int × Int × Int)), k ≤ l.length ∧ i = .int .i64 k ∧ o = .slice p zs.length c ∧ Below w.heap.size w wr ∧ Hid (TrcSt l who w.heap.size wr k p c zs)) (fun _ i _ => l.length - (intOf i).toNat)
  case atStart => exact ⟨0, _, 0, [], Nat.zero_le _, rfl, rfl, (Below.refl _ _).alloc (Nat.le_refl _) _, HS0⟩
  case round =>
    clear HS0
    obtain ⟨k, p, c, zs, hk, rfl, rfl, hbl, HM⟩ := hrel
    by_cases hlt : k < l.length
    · have hp := yTlmEventS_law.rd_blw HR.out hbl
      have hk0 : (0 : Int) ≤ (k : Int) := by omega
      have hk1 : (k : Int) < (l.length : Int) := by omega
      have hc : ∃ b off, p0 = some ⟨b, off, none⟩ ∧ b < wr.heap.size ∧ ∀ (j : Nat) (v : Value), (yTlmEvent.cells l[k])[j]? = some v → wr.cell? ⟨b, off + k * 3 + j, none⟩ = some v := by
        rcases hp.2.2.1 with h0 | ⟨b, off, e, hb, hc⟩
        · have h0 : l = [] := h0
          subst h0; simp at hlt
        · exact ⟨b, off, e, hb, fun j v hv => hc k hlt j v hv⟩
      obtain ⟨b, off, rfl, hb, hc⟩ := hc
      have hstp := trcP_step hlt who
      clear hp
      generalize l[k] = q at hc hstp
      obtain ⟨q_0, q_1, q_2⟩ := q
      have c0 : wr.cell? ⟨b, off + k * 3, none⟩ = some (.int .i64 q_0) := hc 0 _ rfl
      have c1 : wr.cell? ⟨b, off + k * 3 + 1, none⟩ = some (.int .i64 q_1) := hc 1 _ rfl
      have c2 : wr.cell? ⟨b, off + k * 3 + 2, none⟩ = some (.int .i64 q_2) := hc 2 _ rfl
      have hs := hbl.size
      have HST := Hid.intro hstp
      clear hc hstp
      by_cases hw : q_1 = who
      · have hw' := hw.symm
        subst hw'
        have gr := (Below.refl wr.heap.size wr).alloc (Nat.le_refl _) (.cells #[.int .i64 q_0, .int .i64 who, .int .i64 q_2] 61)
        have HRW := Hid.intro (HM.out.row.of (fun x e hx => gr.block x hx))
        have HG := Hid.intro gr
        have HY : Hid (∀ (j : Nat) (v : Value), (yTlmEvent.cells (q_0, who, q_2))[j]? = some v → (wr.alloc (.cells #[.int .i64 q_0, .int .i64 who, .int .i64 q_2] 61)).cell? ⟨wr.heap.size, j, none⟩ = some v) := Hid.intro (fun j v hv => by
          have hb : (wr.alloc (.cells #[.int .i64 q_0, .int .i64 who, .int .i64 q_2] 61)).heap[wr.heap.size]? = some (.cells #[.int .i64 q_0, .int .i64 who, .int .i64 q_2] 61 (0, 0)) := nw_k _ rfl
          rw [heap_cell hb j]
          rw [yTlmEvent_cells] at hv
          simpa using hv)
        have hzl : zs.length ≤ 2000000 := by have h1 := HM.out.size; have h2 := HL3.out; omega
        clear gr
        go_wp2_with (at_builtin; refine wpList_appK (z := .agg #[.int .i64 0, .int .i64 0, .int .i64 0]) yTlmEvent_law Try.underlying66 HI.out.1 HI.out.2.1 HI.out.2.2.1 HI.out.2.2.2 rfl (by decide) zs (q_0, who, q_2) rfl rfl rfl rfl HRW.out rfl HY.out hzl ?_; intro g' cap' w2 hO hcap hor hkp; have HH := Hid.intro (And.intro hO (And.intro hcap (And.intro hor hkp))); clear hO hcap hor hkp)
        have hb2 : Below w.heap.size w w2 := old_keptK hbl HG.out HH.out.2.2.2 (fun x e => HM.out.new x e) hs
        have HM2 : Hid (TrcSt l who w.heap.size w2 (k + 1) (some ⟨g', 0, none⟩) cap' (zs ++ [(q_0, who, q_2)])) := Hid.intro (by
          have hsz := HG.out.size
          refine ⟨?_, ?_, .inr ⟨g', rfl, (by have h := HH.out.1; rw [show zs.length + 1 = (zs ++ [(q_0, who, q_2)]).length by simp] at h; exact h), HH.out.2.1⟩, fun x e => ?_⟩
          · rw [HST.out, List.map_append, HM.out.pl]
            simp
          · have h1 := HM.out.size
            simp only [List.length_append, List.length_cons, List.length_nil]
            omega
          · cases e
            rcases HH.out.2.2.1 with h | h
            · exact HM.out.new g' h
            · omega)
        clear HH HG HY HRW HST HM hbl
        go_roundw
        case rel => exact ⟨k + 1, some ⟨g', 0, none⟩, cap', zs ++ [(q_0, who, q_2)], by omega, by go_num, by simp, hb2, HM2⟩
        case measure => simp [intOf]; omega
      · have HM2 : Hid (TrcSt l who w.heap.size wr (k + 1) p c zs) := Hid.intro ⟨by
            rw [HST.out, HM.out.pl]; simp [hw], Nat.le_succ_of_le HM.out.size, HM.out.row, HM.out.new⟩
        clear HST HM
        go_wp2
        go_roundw
        case rel => exact ⟨k + 1, p, c, zs, by omega, by go_num, rfl, hbl, HM2⟩
        case measure => simp [intOf]; omega
    · have hk' : k = l.length := by omega
      have HF : Hid (Fresh yTlmEventS w.heap.size wr ⟨p, c, zs⟩) := Hid.intro (fresh_ev HM.out.row HM.out.new)
      have HPL : Hid (yTlmEventS.pl ⟨p, c, zs⟩ = trcP (yTlmEventS.pl ⟨p0, c0', l⟩) who) := Hid.intro (by
        have h1 := HM.out.pl
        rw [hk', List.take_length] at h1
        exact h1)
      clear HM
      go_wp2
      go_ret
      exact ⟨⟨p, c, zs⟩, rfl, HPL.out, HF.out.ow, hbl⟩

end Go.Proofs.Ytgjlkmhbaimjpaa
