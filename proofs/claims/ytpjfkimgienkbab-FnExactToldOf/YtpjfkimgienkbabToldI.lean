/-
  ToldOf of the program.
-/
import Derived.Test.YtpjfkimgienkbabTlmCp
import Derived.Test.YtpjfkimgienkbabKndA
namespace Go.Proofs.Ytpjfkimgienkbab
open Go.RowKit
set_option linter.unusedSimpArgs false
set_option linter.unusedVariables false

/-- what one was told -/
def toldP (l : List (Int × Int × (Int × Int × List Int))) (who : Int) : List (Int × Int × (Int × Int × List Int)) := l.filter (fun x => x.1 == who)
theorem toldP_step {l : List (Int × Int × (Int × Int × Lst Int))} {k : Nat} (hk : k < l.length) (who : Int) : toldP ((l.take (k + 1)).map yTlmJob.pl) who = toldP ((l.take k).map yTlmJob.pl) who ++ (if l[k].1 == who then [yTlmJob.pl l[k]] else []) := by
  unfold toldP
  rw [List.take_succ_eq_append_getElem hk, List.map_append, List.filter_append]
  congr 1
  show List.filter _ [yTlmJob.pl l[k]] = _
  have e : (yTlmJob.pl l[k]).1 = l[k].1 := rfl
  by_cases h : (l[k].1 == who) = true
  · simp [List.filter, e, h]
  · simp only [Bool.not_eq_true] at h
    simp [List.filter, e, h]

/-- what one was told so far: a row of its own, or none, of what the list holds -/
structure ToldSt (l : List (Int × Int × (Int × Int × Lst Int))) (who : Int) (B : Nat) (w : World) (k : Nat) (p : Option Addr) (c : Nat) (zs : List (Int × Int × (Int × Int × Lst Int))) : Prop where
  pl : zs.map yTlmJob.pl = toldP ((l.take k).map yTlmJob.pl) who
  size : zs.length + (zs.map yTlmJob.size).sum ≤ k + ((l.take k).map yTlmJob.size).sum
  row : RowN 62 5 w p c zs.length (zs.flatMap yTlmJob.cells)
  new : ∀ b, p = some ⟨b, 0, none⟩ → B ≤ b
  sub : ∀ x ∈ zs, x ∈ l
theorem ToldSt.rd {l zs : List (Int × Int × (Int × Int × Lst Int))} {who : Int} {B k c : Nat} {w : World} {p : Option Addr} (h : ToldSt l who B w k p c zs) (hr : ∀ x ∈ l, yTlmJob.rd w x) : yTlmJobS.rd w ⟨p, c, zs⟩ := by
  rcases h.row with ⟨rfl, rfl, h3, _⟩ | ⟨g, rfl, hO, hc⟩
  · have : zs = [] := List.length_eq_zero_iff.1 h3
    subst this
    exact ⟨Nat.le_refl _, by simp, .inl rfl, fun _ h => by simp at h⟩
  · have hcl : zs.length ≤ c := by obtain ⟨_, _, _, h, _⟩ := hO; exact h
    refine ⟨hcl, by unfold maxLen at hc; exact hc, .inr ⟨g, 0, rfl, hO.lt, fun k hk j v hv => ?_⟩, fun x hx => hr x (h.sub x hx)⟩
    rw [Nat.zero_add]
    exact hO.rowcell yTlmJob_law.len hk j v hv

set_option maxRecDepth 100000 in
set_option maxHeartbeats 2000000 in
theorem impl_ToldOf (a : Lst (Int × Int × (Int × Int × Lst Int))) (who : Int) (w : World) (hr : yTlmJobS.rd w a) (hs : yTlmJobS.size a ≤ 1048576) :
    Calls Try.prog 13 #[yTlmJobS.val a, .int .i64 who] w fun e w' => ∃ a', e = .returned (yTlmJobS.val a') ∧ yTlmJobS.pl a' = toldP (yTlmJobS.pl a) who ∧ yTlmJobS.size a' ≤ 1048576 ∧ Fresh yTlmJobS w.heap.size w' a' ∧ Below w.heap.size w w' := by
  obtain ⟨p0, c0', l⟩ := a
  have hl1 : l.length ≤ c0' := hr.1
  have hl2 : c0' ≤ 9223372036854775807 := hr.2.1
  have hs' : l.length + (l.map yTlmJob.size).sum ≤ 1048576 := hs
  have hl3 : l.length ≤ 1048576 := by omega
  have HR := Hid.intro hr
  have HSZ := Hid.intro hs'
  clear hr hs hs'
  obtain ⟨i0, hi, hz0, hz1, hz2⟩ := info_parts Try.infoTlmJobS
  have HI := Hid.intro (And.intro hi (And.intro hz0 (And.intro hz1 hz2)))
  clear hi hz0 hz1 hz2
  show Calls Try.prog 13 #[.slice p0 l.length c0', .int .i64 who] w _
  go_enter Try.func13, Try.ntmps13
  go_wp2
  go_loopw [5, 10] (fun o i wr => ∃ (k : Nat) (p : Option Addr) (c : Nat) (zs : List (Int × Int × (Int × Int × Lst Int))), k ≤ l.length ∧ i = .int .i64 k ∧ o = .slice p zs.length c ∧ Below w.heap.size w wr ∧ Hid (ToldSt l who w.heap.size wr k p c zs)) (fun _ i _ => l.length - (intOf i).toNat)
  case atStart => exact ⟨0, none, 0, [], Nat.zero_le _, rfl, rfl, Below.refl _ _, Hid.intro ⟨rfl, (by simp), .inl ⟨rfl, rfl, rfl, rfl⟩, (fun b e => by cases e), (fun x hx => by simp at hx)⟩⟩
  case round =>
    obtain ⟨k, p, c, zs, hk, rfl, rfl, hbl, HM⟩ := hrel
    by_cases hlt : k < l.length
    · have hp := yTlmJobS_law.rd_blw HR.out hbl
      have hk0 : (0 : Int) ≤ (k : Int) := by omega
      have hk1 : (k : Int) < (l.length : Int) := by omega
      have hc : ∃ b off, p0 = some ⟨b, off, none⟩ ∧ b < wr.heap.size ∧ ∀ (j : Nat) (v : Value), (yTlmJob.cells l[k])[j]? = some v → wr.cell? ⟨b, off + k * 5 + j, none⟩ = some v := by
        rcases hp.2.2.1 with h0 | ⟨b, off, e, hb, hc⟩
        · have h0 : l = [] := h0
          subst h0; simp at hlt
        · exact ⟨b, off, e, hb, fun j v hv => hc k hlt j v hv⟩
      obtain ⟨b, off, rfl, hb, hc⟩ := hc
      have hmem := List.getElem_mem hlt
      have hstp := toldP_step hlt who
      have hszt := size_take yTlmJob hlt
      clear hp
      generalize l[k] = q at hc hmem hstp hszt
      obtain ⟨q_0, q_1, ⟨q_2_0, q_2_1, q_2_2⟩⟩ := q
      have c0 : wr.cell? ⟨b, off + k * 5, none⟩ = some (.int .i64 q_0) := hc 0 _ rfl
      have c1 : wr.cell? ⟨b, off + k * 5 + 1, none⟩ = some (.int .i64 q_1) := hc 1 _ rfl
      have c2 : wr.cell? ⟨b, off + k * 5 + 2, none⟩ = some (.int .i64 q_2_0) := hc 2 _ rfl
      have c3 : wr.cell? ⟨b, off + k * 5 + 3, none⟩ = some (.int .i64 q_2_1) := hc 3 _ rfl
      have c4 : wr.cell? ⟨b, off + k * 5 + 4, none⟩ = some (.slice q_2_2.p q_2_2.l.length q_2_2.c) := hc 4 _ rfl
      have hs := hbl.size
      have HST := Hid.intro (And.intro hmem (And.intro hstp hszt))
      clear hc hmem hstp hszt
      by_cases hw : q_0 = who
      · have hw' := hw.symm
        subst hw'
        have gr := (Below.refl wr.heap.size wr).alloc (Nat.le_refl _) (.cells #[.int .i64 who, .int .i64 q_1, .int .i64 q_2_0, .int .i64 q_2_1, .slice q_2_2.p q_2_2.l.length q_2_2.c] 62)
        have gr2 := gr.alloc (by simp) (.cells #[.int .i64 who, .int .i64 q_1, .int .i64 q_2_0, .int .i64 q_2_1, .slice q_2_2.p q_2_2.l.length q_2_2.c] 62)
        have HRW := Hid.intro (HM.out.row.of (fun x e hx => gr2.block x hx))
        have HG := Hid.intro gr2
        have HY : Hid (∀ (j : Nat) (v : Value), (yTlmJob.cells (who, q_1, (q_2_0, q_2_1, q_2_2)))[j]? = some v → ((wr.alloc (.cells #[.int .i64 who, .int .i64 q_1, .int .i64 q_2_0, .int .i64 q_2_1, .slice q_2_2.p q_2_2.l.length q_2_2.c] 62)).alloc (.cells #[.int .i64 who, .int .i64 q_1, .int .i64 q_2_0, .int .i64 q_2_1, .slice q_2_2.p q_2_2.l.length q_2_2.c] 62)).cell? ⟨wr.heap.size + 1, j, none⟩ = some v) := Hid.intro (fun j v hv => by
          have hb : ((wr.alloc (.cells #[.int .i64 who, .int .i64 q_1, .int .i64 q_2_0, .int .i64 q_2_1, .slice q_2_2.p q_2_2.l.length q_2_2.c] 62)).alloc (.cells #[.int .i64 who, .int .i64 q_1, .int .i64 q_2_0, .int .i64 q_2_1, .slice q_2_2.p q_2_2.l.length q_2_2.c] 62)).heap[wr.heap.size + 1]? = some (.cells #[.int .i64 who, .int .i64 q_1, .int .i64 q_2_0, .int .i64 q_2_1, .slice q_2_2.p q_2_2.l.length q_2_2.c] 62 (0, 0)) := nw_k _ (by simp)
          rw [heap_cell hb j]
          rw [yTlmJob_cells] at hv
          simpa using hv)
        have hzl : zs.length ≤ 2000000 := by
          have h1 := HM.out.size
          have h2 := size_part yTlmJob l k
          have h3 := HSZ.out
          omega
        clear gr gr2
        go_wp2_with (at_builtin; refine wpList_appK (z := .agg #[.int .i64 0, .int .i64 0, .int .i64 0, .int .i64 0, .slice none 0 0]) yTlmJob_law Try.underlying29 HI.out.1 HI.out.2.1 HI.out.2.2.1 HI.out.2.2.2 rfl (by decide) zs (who, q_1, (q_2_0, q_2_1, q_2_2)) rfl rfl rfl rfl HRW.out rfl HY.out hzl ?_; intro g' cap' w2 hO hcap hor hkp; have HH := Hid.intro (And.intro hO (And.intro hcap (And.intro hor hkp))); clear hO hcap hor hkp)
        have hb2 : Below w.heap.size w w2 := old_keptK hbl HG.out HH.out.2.2.2 (fun x e => HM.out.new x e) hs
        have HM2 : Hid (ToldSt l who w.heap.size w2 (k + 1) (some ⟨g', 0, none⟩) cap' (zs ++ [(who, q_1, (q_2_0, q_2_1, q_2_2))])) := Hid.intro (by
          have hsz := HG.out.size
          refine ⟨?_, ?_, .inr ⟨g', rfl, (by have h := HH.out.1; rw [show zs.length + 1 = (zs ++ [(who, q_1, (q_2_0, q_2_1, q_2_2))]).length by simp] at h; exact h), HH.out.2.1⟩, fun x e => ?_, fun x hx => ?_⟩
          · rw [HST.out.2.1, List.map_append, HM.out.pl]
            simp
          · have h1 := HM.out.size
            have h2 := HST.out.2.2
            rw [h2]
            simp only [List.length_append, List.map_append, List.sum_append, List.length_cons, List.length_nil, List.map_cons, List.map_nil, List.sum_cons, List.sum_nil]
            omega
          · cases e
            rcases HH.out.2.2.1 with h | h
            · exact HM.out.new g' h
            · omega
          · rcases List.mem_append.1 hx with hx | hx
            · exact HM.out.sub x hx
            · simp at hx; subst hx; exact HST.out.1)
        clear HH HG HY HRW HST HM hbl
        go_roundw
        case rel => exact ⟨k + 1, some ⟨g', 0, none⟩, cap', zs ++ [(who, q_1, (q_2_0, q_2_1, q_2_2))], by omega, by go_num, by simp, hb2, HM2⟩
        case measure => simp [intOf]; omega
      · have gr := (Below.refl wr.heap.size wr).alloc (Nat.le_refl _) (.cells #[.int .i64 q_0, .int .i64 q_1, .int .i64 q_2_0, .int .i64 q_2_1, .slice q_2_2.p q_2_2.l.length q_2_2.c] 62)
        have hb2 := hbl.trans (gr.mono hs)
        have HM2 : Hid (ToldSt l who w.heap.size (wr.alloc (.cells #[.int .i64 q_0, .int .i64 q_1, .int .i64 q_2_0, .int .i64 q_2_1, .slice q_2_2.p q_2_2.l.length q_2_2.c] 62)) (k + 1) p c zs) := Hid.intro ⟨by
            rw [HST.out.2.1, HM.out.pl]; simp [hw], by have h1 := HM.out.size; have h2 := HST.out.2.2; rw [h2]; omega, HM.out.row.of (fun x e hx => gr.block x hx), HM.out.new, HM.out.sub⟩
        clear gr HST HM hbl
        go_wp2
        go_roundw
        case rel => exact ⟨k + 1, p, c, zs, by omega, by go_num, rfl, hb2, HM2⟩
        case measure => simp [intOf]; omega
    · have hk' : k = l.length := by omega
      have hrd := HM.out.rd (fun x hx => (yTlmJobS_law.rd_blw HR.out hbl).2.2.2 x hx)
      have hsz : yTlmJobS.size ⟨p, c, zs⟩ ≤ 1048576 := by
        show zs.length + (zs.map yTlmJob.size).sum ≤ 1048576
        have h1 := HM.out.size
        have h2 := HSZ.out
        rw [hk', List.take_length] at h1
        omega
      have HPL : Hid (yTlmJobS.pl ⟨p, c, zs⟩ = toldP (yTlmJobS.pl ⟨p0, c0', l⟩) who) := Hid.intro (by
        have h1 := HM.out.pl
        rw [hk', List.take_length] at h1
        exact h1)
      have HCP := Hid.intro (impl_tlmCopy ⟨p, c, zs⟩ wr hrd hsz)
      have HS2 := Hid.intro hsz
      clear hrd hsz HM
      go_wp2_with fail
      refine HCP.out.mono ?_
      rintro e w1 ⟨x, he, hp, hs2, hf, hb⟩
      replace he : e = .returned (.slice x.p x.l.length x.c) := he
      subst he
      have HX := Hid.intro (And.intro hp (And.intro hs2 (And.intro hf hb)))
      clear hp hs2 hf hb HCP
      go_wp2
      go_ret
      exact ⟨x, rfl, HX.out.1.trans HPL.out, by rw [HX.out.2.1]; exact HS2.out, HX.out.2.2.1.mono hbl.size, hbl.trans (HX.out.2.2.2.mono hbl.size)⟩

end Go.Proofs.Ytpjfkimgienkbab
