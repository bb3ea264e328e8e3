/-
  CycSlave: the laws' functions, by contract of kinds.
-/
import Derived.Test.YtpjfkimgienkbabKCycJob
import Derived.Test.YtpjfkimgienkbabKTlmJob
import Derived.Test.YtpjfkimgienkbabKndI
import Derived.Test.YtpjfkimgienkbabKndLM
import Derived.Test.YtpjfkimgienkbabOpsXM
namespace Go.Proofs.Ytpjfkimgienkbab
open Go.RowKit
set_option linter.unusedSimpArgs false
set_option linter.unusedVariables false

def yCycSlave : Knd ((Lst (Int × Int × Int)) × (Lst (Int × Int × (Int × Int × (Lst Int)))) × Int) ((List (Int × Int × Int)) × (List (Int × Int × (Int × Int × (List Int)))) × Int) := gRec (gPair yCycJobS (gPair yTlmJobS gInt))
theorem yCycSlave_law : KLaw yCycSlave := gRec_law (gPair_law yCycJobS_law (gPair_law yTlmJobS_law gInt_law))
theorem yCycSlave_val (f : ((Lst (Int × Int × Int)) × (Lst (Int × Int × (Int × Int × (Lst Int)))) × Int)) : yCycSlave.val f = .agg #[.slice f.1.p f.1.l.length f.1.c, .slice f.2.1.p f.2.1.l.length f.2.1.c, .int .i64 f.2.2] := rfl
theorem yCycSlave_cells (f : ((Lst (Int × Int × Int)) × (Lst (Int × Int × (Int × Int × (Lst Int)))) × Int)) : yCycSlave.cells f = [.slice f.1.p f.1.l.length f.1.c, .slice f.2.1.p f.2.1.l.length f.2.1.c, .int .i64 f.2.2] := rfl

set_option maxRecDepth 100000 in
set_option maxHeartbeats 2000000 in
theorem yCycSlave_eq : EqC yCycSlave 40 := by
  rintro ⟨f_0, f_1, f_2⟩ ⟨g_0, g_1, g_2⟩ w hr hr' hp
  have hp' : ((yCycJobS.pl f_0, yTlmJobS.pl f_1, f_2) : ((List (Int × Int × Int)) × (List (Int × Int × (Int × Int × (List Int)))) × Int)) = (yCycJobS.pl g_0, yTlmJobS.pl g_1, g_2) := hp
  clear hp
  simp only [Prod.mk.injEq] at hp'
  obtain ⟨p0, p1, rfl⟩ := hp'
  have HR := Hid.intro hr
  have HQ := Hid.intro hr'
  clear hr hr'
  have hbl : ∀ o o', Below w.heap.size w ((w.alloc o).alloc o') := fun o o' => ((Below.refl _ w).alloc (Nat.le_refl _) o).alloc (by simp) o'
  show Calls Try.prog 40 #[.agg #[.slice f_0.p f_0.l.length f_0.c, .slice f_1.p f_1.l.length f_1.c, .int .i64 f_2], .agg #[.slice g_0.p g_0.l.length g_0.c, .slice g_1.p g_1.l.length g_1.c, .int .i64 f_2]] w _
  go_enter Try.func40, Try.ntmps40
  have HC0 : Hid (∀ (w : World), yCycJobS.rd w f_0 → yCycJobS.rd w g_0 → yCycJobS.pl f_0 = yCycJobS.pl g_0 → Calls Try.prog 48 #[.slice f_0.p f_0.l.length f_0.c, .slice g_0.p g_0.l.length g_0.c] w fun e w' => e = .returned (.bool true) ∧ Below w.heap.size w w') := Hid.intro (yCycJobS_eq f_0 g_0)
  go_wp2_with fail
  refine (HC0.out _ (yCycJobS_law.rd_blw HR.out.1 (hbl _ _)) (yCycJobS_law.rd_blw HQ.out.1 (hbl _ _)) p0).mono ?_
  clear HC0
  rintro e w1 ⟨rfl, hb⟩
  have bel0 : Below w.heap.size w w1 := (hbl _ _).trans (hb.mono (hbl _ _).size)
  have bA0 : w1.heap[w.heap.size]? = some (.cells #[.slice f_0.p f_0.l.length f_0.c, .slice f_1.p f_1.l.length f_1.c, .int .i64 f_2] 48 (0, 0)) := (hb.block _ (by simp <;> omega)).trans ((Below.heap_alloc _ _ _ (by simp)).trans (nw_k _ rfl))
  have bB0 : w1.heap[w.heap.size + 1]? = some (.cells #[.slice g_0.p g_0.l.length g_0.c, .slice g_1.p g_1.l.length g_1.c, .int .i64 f_2] 48 (0, 0)) := (hb.block _ (by simp)).trans (nw_k _ (by simp))
  clear hb
  have c0 : w1.cell? ⟨w.heap.size, 0, none⟩ = some (.slice f_0.p f_0.l.length f_0.c) := heap_cell bA0 0
  have c1 : w1.cell? ⟨w.heap.size, 1, none⟩ = some (.slice f_1.p f_1.l.length f_1.c) := heap_cell bA0 1
  have c2 : w1.cell? ⟨w.heap.size, 2, none⟩ = some (.int .i64 f_2) := heap_cell bA0 2
  have d0 : w1.cell? ⟨w.heap.size + 1, 0, none⟩ = some (.slice g_0.p g_0.l.length g_0.c) := heap_cell bB0 0
  have d1 : w1.cell? ⟨w.heap.size + 1, 1, none⟩ = some (.slice g_1.p g_1.l.length g_1.c) := heap_cell bB0 1
  have d2 : w1.cell? ⟨w.heap.size + 1, 2, none⟩ = some (.int .i64 f_2) := heap_cell bB0 2
  have HC1 : Hid (∀ (w : World), yTlmJobS.rd w f_1 → yTlmJobS.rd w g_1 → yTlmJobS.pl f_1 = yTlmJobS.pl g_1 → Calls Try.prog 14 #[.slice f_1.p f_1.l.length f_1.c, .slice g_1.p g_1.l.length g_1.c] w fun e w' => e = .returned (.bool true) ∧ Below w.heap.size w w') := Hid.intro (yTlmJobS_eq f_1 g_1)
  go_wp2_with fail
  refine (HC1.out w1 (yTlmJobS_law.rd_blw HR.out.2.1 bel0) (yTlmJobS_law.rd_blw HQ.out.2.1 bel0) p1).mono ?_
  clear HC1
  rintro e w2 ⟨rfl, hb⟩
  have bel1 : Below w.heap.size w w2 := bel0.trans (hb.mono bel0.size)
  have bA1 : w2.heap[w.heap.size]? = some (.cells #[.slice f_0.p f_0.l.length f_0.c, .slice f_1.p f_1.l.length f_1.c, .int .i64 f_2] 48 (0, 0)) := (hb.block _ (heap_lt bA0)).trans bA0
  have bB1 : w2.heap[w.heap.size + 1]? = some (.cells #[.slice g_0.p g_0.l.length g_0.c, .slice g_1.p g_1.l.length g_1.c, .int .i64 f_2] 48 (0, 0)) := (hb.block _ (heap_lt bB0)).trans bB0
  clear bel0 bA0 bB0 c0 c1 c2 d0 d1 d2
  clear hb
  have c0 : w2.cell? ⟨w.heap.size, 0, none⟩ = some (.slice f_0.p f_0.l.length f_0.c) := heap_cell bA1 0
  have c1 : w2.cell? ⟨w.heap.size, 1, none⟩ = some (.slice f_1.p f_1.l.length f_1.c) := heap_cell bA1 1
  have c2 : w2.cell? ⟨w.heap.size, 2, none⟩ = some (.int .i64 f_2) := heap_cell bA1 2
  have d0 : w2.cell? ⟨w.heap.size + 1, 0, none⟩ = some (.slice g_0.p g_0.l.length g_0.c) := heap_cell bB1 0
  have d1 : w2.cell? ⟨w.heap.size + 1, 1, none⟩ = some (.slice g_1.p g_1.l.length g_1.c) := heap_cell bB1 1
  have d2 : w2.cell? ⟨w.heap.size + 1, 2, none⟩ = some (.int .i64 f_2) := heap_cell bB1 2
  clear HR HQ
  go_wp2
  go_ret
  exact ⟨rfl, bel1⟩

def yCycSlaveS : Knd (Lst ((Lst (Int × Int × Int)) × (Lst (Int × Int × (Int × Int × (Lst Int)))) × Int)) (List ((List (Int × Int × Int)) × (List (Int × Int × (Int × Int × (List Int)))) × Int)) := gLst 48 yCycSlave
theorem yCycSlaveS_law : KLaw yCycSlaveS := gLst_law yCycSlave_law (by decide)

set_option maxRecDepth 100000 in
set_option maxHeartbeats 2000000 in
theorem yCycSlaveS_eq : EqC yCycSlaveS 21 := by
  rintro ⟨p, c, l⟩ ⟨p', c', m⟩ w hr hr' hpl
  have hl1 : l.length ≤ c := hr.1
  have hl2 : c ≤ 9223372036854775807 := hr.2.1
  have hl3 : m.length ≤ c' := hr'.1
  have hl4 : c' ≤ 9223372036854775807 := hr'.2.1
  have hpl' : l.map yCycSlave.pl = m.map yCycSlave.pl := hpl
  have hlm : l.length = m.length := by have := congrArg List.length hpl'; simpa using this
  have HP := Hid.intro hr
  have HQ := Hid.intro hr'
  have HE := Hid.intro hpl'
  clear hr hr' hpl hpl'
  obtain ⟨n, hn⟩ : ∃ n, n = l.length := ⟨_, rfl⟩
  have HN := Hid.intro (And.intro hn (hn.trans hlm))
  show Calls Try.prog 21 #[.slice p l.length c, .slice p' m.length c'] w _
  rw [← hlm, ← hn]
  have hn1 : n ≤ 9223372036854775807 := by omega
  clear hn hlm hl1 hl2 hl3 hl4
  go_enter Try.func21, Try.ntmps21
  go_wp2
  go_loopw [5] (fun i wr => ∃ k : Nat, k ≤ n ∧ i = .int .i64 k ∧ Below w.heap.size w wr) (fun i _ => n - (intOf i).toNat)
  case atStart => exact ⟨0, Nat.zero_le _, rfl, Below.refl _ _⟩
  case round =>
    obtain ⟨k, hk, rfl, hbl⟩ := hrel
    by_cases hlt : k < n
    · have hk0 : (0 : Int) ≤ (k : Int) := by omega
      have hk1 : (k : Int) < (n : Int) := by omega
      have hp := yCycSlaveS_law.rd_blw HP.out hbl
      have hq := yCycSlaveS_law.rd_blw HQ.out hbl
      have ly : k < l.length := by have := HN.out.1; omega
      have lz : k < m.length := by have := HN.out.2; omega
      have hxx : yCycSlave.pl l[k] = yCycSlave.pl m[k] := by
        have e1 : (l.map yCycSlave.pl)[k]? = (m.map yCycSlave.pl)[k]? := by rw [HE.out]
        simpa [ly, lz] using e1
      have hpa := hp.2.2.2 _ (List.getElem_mem ly)
      have hqa := hq.2.2.2 _ (List.getElem_mem lz)
      have hcp : ∃ b off, p = some ⟨b, off, none⟩ ∧ b < wr.heap.size ∧ ∀ (j : Nat) (v : Value), (yCycSlave.cells l[k])[j]? = some v → wr.cell? ⟨b, off + k * 3 + j, none⟩ = some v := by
        rcases hp.2.2.1 with h0 | ⟨b, off, e, hb, hc⟩
        · have h0 : l = [] := h0
          rw [h0] at ly; simp at ly
        · exact ⟨b, off, e, hb, fun j v hv => hc k ly j v hv⟩
      obtain ⟨b, off, rfl, hb, hcp⟩ := hcp
      have hcq : ∃ b off, p' = some ⟨b, off, none⟩ ∧ b < wr.heap.size ∧ ∀ (j : Nat) (v : Value), (yCycSlave.cells m[k])[j]? = some v → wr.cell? ⟨b, off + k * 3 + j, none⟩ = some v := by
        rcases hq.2.2.1 with h0 | ⟨b, off, e, hb, hc⟩
        · have h0 : m = [] := h0
          rw [h0] at lz; simp at lz
        · exact ⟨b, off, e, hb, fun j v hv => hc k lz j v hv⟩
      obtain ⟨b', off', rfl, hb', hcq⟩ := hcq
      clear hp hq
      generalize l[k] = x at hxx hpa hcp
      generalize m[k] = z at hxx hqa hcq
      obtain ⟨x_0, x_1, x_2⟩ := x
      obtain ⟨z_0, z_1, z_2⟩ := z
      have u0 : wr.cell? ⟨b, off + k * 3, none⟩ = some (.slice x_0.p x_0.l.length x_0.c) := hcp 0 _ rfl
      have u1 : wr.cell? ⟨b, off + k * 3 + 1, none⟩ = some (.slice x_1.p x_1.l.length x_1.c) := hcp 1 _ rfl
      have u2 : wr.cell? ⟨b, off + k * 3 + 2, none⟩ = some (.int .i64 x_2) := hcp 2 _ rfl
      have y0 : wr.cell? ⟨b', off' + k * 3, none⟩ = some (.slice z_0.p z_0.l.length z_0.c) := hcq 0 _ rfl
      have y1 : wr.cell? ⟨b', off' + k * 3 + 1, none⟩ = some (.slice z_1.p z_1.l.length z_1.c) := hcq 1 _ rfl
      have y2 : wr.cell? ⟨b', off' + k * 3 + 2, none⟩ = some (.int .i64 z_2) := hcq 2 _ rfl
      have HP1 := Hid.intro (And.intro hpa (And.intro u0 (And.intro u1 u2)))
      have HQ1 := Hid.intro (And.intro hqa (And.intro y0 (And.intro y1 y2)))
      have HXX := Hid.intro hxx
      clear hpa hqa hxx hcp hcq ly lz u0 u1 u2 y0 y1 y2
      go_wp2_with fail
      refine wp_region_typed (by kernel_rfl) Gr (fun _ W => Below wr.heap.size wr W)
        (tab [(17, kIs (.slice (some ⟨b, off, none⟩) n c)), (18, kIs (.int .i64 k)), (19, kIs (.pointer (some ⟨b, off + k * 3, none⟩))), (20, kIs (.agg #[.slice x_0.p x_0.l.length x_0.c, .slice x_1.p x_1.l.length x_1.c, .int .i64 x_2])), (21, kIs (.slice (some ⟨b', off', none⟩) n c')), (22, kIs (.int .i64 k)), (23, kIs (.pointer (some ⟨b', off' + k * 3, none⟩))), (24, kIs (.agg #[.slice z_0.p z_0.l.length z_0.c, .slice z_1.p z_1.l.length z_1.c, .int .i64 z_2])), (25, kIs (.bool true)), (26, kIs (.bool false))])
        [17, 18, 19, 20, 21, 22, 23, 24, 25, 26] (by kernel_rfl) (by kernel_rfl) ?_ ?_ ?_ ?_
      · refine tabR_stable ?_
        intro y hy
        simp only [List.mem_cons, List.not_mem_nil, or_false] at hy
        rcases hy with rfl | rfl | rfl | rfl | rfl | rfl | rfl | rfl | rfl | rfl
        all_goals intro w w' v hr hv
        all_goals exact hv
      · exact (Below.refl _ _).drew
      · refine ops_cons (gd rfl <| ty_move_out (.inl rfl) rfl (by kernel_rfl) rfl (fun _ _ h => h) Gr.refl) ?_
        refine ops_cons (gd rfl <| ty_move_out (.inl rfl) rfl (by kernel_rfl) rfl (fun _ _ h => h) Gr.refl) ?_
        refine ops_cons (gd rfl <| tx_pure rfl rfl (fun _ _ h => h) Gr.refl (fun _ ρ W hat hW => ?_)) ?_
        · have e1 : ρ (.tmp 17) = _ := hat.dep 17 (by kernel_rfl)
          have e2 : ρ (.tmp 18) = _ := hat.dep 18 (by kernel_rfl)
          simp only [execOp, e1, e2]; go_simp
        refine ops_cons (gd rfl <| tx_pure rfl rfl (fun _ _ h => h) Gr.refl (fun _ ρ W hat hW => ?_)) ?_
        · have e1 : ρ (.tmp 19) = _ := hat.dep 19 (by kernel_rfl)
          obtain ⟨u0, u1, u2⟩ := HP1.out.2
          have v0 := (hW.cell (p := ⟨b, off + k * 3, none⟩) hb).trans u0
          have v1 := (hW.cell (p := ⟨b, off + k * 3 + 1, none⟩) hb).trans u1
          have v2 := (hW.cell (p := ⟨b, off + k * 3 + 2, none⟩) hb).trans u2
          clear u0 u1 u2
          simp only [execOp, e1]; go_simp
        refine ops_cons (gd rfl <| ty_move_out (.inl rfl) rfl (by kernel_rfl) rfl (fun _ _ h => h) Gr.refl) ?_
        refine ops_cons (gd rfl <| ty_move_out (.inl rfl) rfl (by kernel_rfl) rfl (fun _ _ h => h) Gr.refl) ?_
        refine ops_cons (gd rfl <| tx_pure rfl rfl (fun _ _ h => h) Gr.refl (fun _ ρ W hat hW => ?_)) ?_
        · have e1 : ρ (.tmp 21) = _ := hat.dep 21 (by kernel_rfl)
          have e2 : ρ (.tmp 22) = _ := hat.dep 22 (by kernel_rfl)
          simp only [execOp, e1, e2]; go_simp
        refine ops_cons (gd rfl <| tx_pure rfl rfl (fun _ _ h => h) Gr.refl (fun _ ρ W hat hW => ?_)) ?_
        · have e1 : ρ (.tmp 23) = _ := hat.dep 23 (by kernel_rfl)
          obtain ⟨y0, y1, y2⟩ := HQ1.out.2
          have v0 := (hW.cell (p := ⟨b', off' + k * 3, none⟩) hb').trans y0
          have v1 := (hW.cell (p := ⟨b', off' + k * 3 + 1, none⟩) hb').trans y1
          have v2 := (hW.cell (p := ⟨b', off' + k * 3 + 2, none⟩) hb').trans y2
          clear y0 y1 y2
          simp only [execOp, e1]; go_simp
        refine ops_cons (gd rfl <| tx_call rfl (fun _ ρ W _ hat hW => ?_)) ?_
        · have e1 : ρ (.tmp 20) = _ := hat.dep 20 (by kernel_rfl)
          have e2 : ρ (.tmp 24) = _ := hat.dep 24 (by kernel_rfl)
          have hf := hat.fn
          refine ⟨40, #[.agg #[.slice x_0.p x_0.l.length x_0.c, .slice x_1.p x_1.l.length x_1.c, .int .i64 x_2], .agg #[.slice z_0.p z_0.l.length z_0.c, .slice z_1.p z_1.l.length z_1.c, .int .i64 z_2]], by simp only [execOp]; go_simp, ?_⟩
          have hcl := yCycSlave_eq (x_0, x_1, x_2) (z_0, z_1, z_2) W (yCycSlave_law.rd_blw HP1.out.1 hW) (yCycSlave_law.rd_blw HQ1.out.1 hW) HXX.out
          refine Calls.mono (show Calls Try.prog 40 #[.agg #[.slice x_0.p x_0.l.length x_0.c, .slice x_1.p x_1.l.length x_1.c, .int .i64 x_2], .agg #[.slice z_0.p z_0.l.length z_0.c, .slice z_1.p z_1.l.length z_1.c, .int .i64 z_2]] W _ from hcl) ?_
          rintro e W' ⟨rfl, hb⟩
          exact ⟨_, rfl, hW.trans (hb.mono hW.size), hb, rfl⟩
        refine ops_cons (gd rfl <| tx_pure rfl rfl (fun _ _ h => h) Gr.refl (fun _ ρ W hat hW => ?_)) ?_
        · have e1 : ρ (.tmp 25) = _ := hat.dep 25 (by kernel_rfl)
          simp only [execOp, e1]; go_simp
        exact ops_nil
      · intro f W hW hf
        have e26 : f 26 = .bool false := hf 26 (by simp)
        clear hf
        have hbW := hbl.trans (hW.mono hbl.size)
        simp only [fill, e26]
        go_simp
        go_wp2
        go_roundw
        case rel => exact ⟨k + 1, by omega, by go_num, hbW⟩
        case measure => simp [intOf]; omega
    · have hk3 : ¬ (k : Int) < (n : Int) := by omega
      go_wp2
      go_ret
      exact ⟨rfl, hbl⟩

theorem Try.infoCycSlaveS : (Try.prog.info? 48).map (fun i => (i.zero, i.size, i.bytes)) = some (some (.agg #[.slice none 0 0, .slice none 0 0, .int .i64 0]), 3, 56) := by kernel_rfl

set_option maxRecDepth 100000 in
set_option maxHeartbeats 2000000 in
theorem yCycSlaveS_mark : MarkC yCycSlaveS 24 := by
  rintro ⟨p, c, l⟩ k0 w ho hn h0 h1
  have hl1 : l.length ≤ c := ho.1
  have hl2 : c ≤ 9223372036854775807 := ho.2.1
  have HC : Hid (k0 + ((cntL yCycSlave l : Nat) : Int) ≤ 1000000000000000) := Hid.intro h1
  have HN := Hid.intro hn
  have HS : Hid (MarkSt yCycSlave 48 l p c k0 w w 0 l) := Hid.intro (MarkSt.start ho k0)
  clear ho hn h1
  show Calls Try.prog 24 #[.slice p l.length c, .int .i64 k0] w fun e w' => e = .returned (.int .i64 (k0 + ((cntL yCycSlave l : Nat) : Int))) ∧ Kept (fun b => b ∈ yCycSlaveS.foot ⟨p, c, l⟩) w w' ∧ ∃ a', yCycSlaveS.val a' = yCycSlaveS.val ⟨p, c, l⟩ ∧ yCycSlaveS.cells a' = yCycSlaveS.cells ⟨p, c, l⟩ ∧ yCycSlaveS.foot a' = yCycSlaveS.foot ⟨p, c, l⟩ ∧ yCycSlaveS.vcnt a' = yCycSlaveS.vcnt ⟨p, c, l⟩ ∧ yCycSlaveS.ow w' a' ∧ yCycSlaveS.vmkd a' k0
  go_enter Try.func24, Try.ntmps24
  go_wp2
  go_loopw [5, 1] (fun i kk wr => ∃ (j : Nat) (y : Int) (ys : List ((Lst (Int × Int × Int)) × (Lst (Int × Int × (Int × Int × (Lst Int)))) × Int)), j ≤ l.length ∧ i = .int .i64 j ∧ kk = .int .i64 y ∧ 0 ≤ y ∧ Hid (y = k0 + ((cntL yCycSlave (l.take j) : Nat) : Int)) ∧ Hid (MarkSt yCycSlave 48 l p c k0 w wr j ys)) (fun i _ _ => l.length - (intOf i).toNat)
  case atStart => exact ⟨0, k0, l, Nat.zero_le _, rfl, rfl, h0, Hid.intro (by simp [cntL]), HS⟩
  case round =>
    clear HS
    obtain ⟨j, y, ys, hj, rfl, rfl, hy0, HY, HM⟩ := hrel
    by_cases hlt : j < l.length
    · have hj0 : (0 : Int) ≤ (j : Int) := by omega
      have hj1 : (j : Int) < (l.length : Int) := by omega
      obtain ⟨hy, b, hpb, hO, hqo, hqn, hqb, hqc⟩ := HM.out.elem HN.out hlt
      subst hpb
      have hc : ∀ (i : Nat) (v : Value), (yCycSlave.cells ys[j])[i]? = some v → wr.cell? ⟨b, j * 3 + i, none⟩ = some v := fun i v hv => hO.rowcell yCycSlave_law.len hy i v hv
      have hfz : ∀ o, wr.frozen? ⟨b, o, none⟩ = false := hO.frz
      obtain ⟨cur, hcur⟩ : ∃ cur, wr.heap[b]? = some (.cells cur 48 (0, 0)) := by obtain ⟨cur, h, _⟩ := hO; exact ⟨cur, h⟩
      have hstep := cntL_take yCycSlave hlt
      have hpart := cntL_part yCycSlave l (j + 1)
      rw [← hqc] at hstep
      have hSTP := fun (q : ((Lst (Int × Int × Int)) × (Lst (Int × Int × (Int × Int × (Lst Int)))) × Int)) (vs : List (Nat × Value)) (W : World) => HM.out.step yCycSlave_law (W := W) HN.out hlt hy q vs
      have hwb := hO.lt
      clear hO HM hqc
      have hB : y + ((yCycSlave.cnt ys[j] : Nat) : Int) ≤ 1000000000000000 := by have h1 := HC.out; have h2 := HY.out; omega
      have hYe : k0 + ((cntL yCycSlave (l.take j) : Nat) : Int) = y := HY.out.symm
      simp only [hYe] at hSTP
      clear hYe
      clear hpart
      have HYS := Hid.intro (⟨ys, rfl⟩ : ∃ zs, zs = ys)
      generalize hqe : ys[j] = q at hqo hqn hqb hc hB hSTP hstep
      have HQE := Hid.intro hqe
      clear hqe
      obtain ⟨q_0, q_1, q_2⟩ := q
      have c0 : wr.cell? ⟨b, j * 3, none⟩ = some (.slice q_0.p q_0.l.length q_0.c) := hc 0 _ rfl
      have f0 := hfz (j * 3)
      have c1 : wr.cell? ⟨b, j * 3 + 1, none⟩ = some (.slice q_1.p q_1.l.length q_1.c) := hc 1 _ rfl
      have f1 := hfz (j * 3 + 1)
      have c2 : wr.cell? ⟨b, j * 3 + 2, none⟩ = some (.int .i64 q_2) := hc 2 _ rfl
      have f2 := hfz (j * 3 + 2)
      have hbd : y + ((yCycJobS.cnt q_0 + (yTlmJobS.cnt q_1 + (1)) : Nat) : Int) ≤ 1000000000000000 := hB
      have HSC : Hid (cntL yCycSlave (l.take (j + 1)) = cntL yCycSlave (l.take j) + (yCycJobS.cnt q_0 + (yTlmJobS.cnt q_1 + (1)))) := Hid.intro hstep
      have HSTP := Hid.intro hSTP
      clear hc hB hstep hSTP hfz
      have hqb : ∀ x ∈ yCycJobS.foot q_0 ++ (yTlmJobS.foot q_1 ++ ([])), x ≠ b := hqb
      have m0 : (yCycJobS.foot q_0 ++ (yTlmJobS.foot q_1 ++ ([]))).Nodup := hqn
      have hnd : (yCycJobS.foot q_0).Nodup ∧ (yTlmJobS.foot q_1).Nodup ∧ ∀ x ∈ yTlmJobS.foot q_1, x ∉ yCycJobS.foot q_0 := by
        have m1 := m0
        simp only [List.nil_append, List.append_nil] at m1
        exact nd2 m1
      have HQ := Hid.intro (And.intro hqo (And.intro hqb hnd))
      clear hqo hqb m0 hqn hnd
      have K1 := Hid.intro c1
      have K2 := Hid.intro c2
      have ho0 : Hid (yCycJobS.ow (putC wr b []) q_0) := Hid.intro (yCycJobS_law.ow_of HQ.out.1.1 (fun x hx => putC_ne _ _ _ (HQ.out.2.1 x (List.mem_append.2 (.inl (hx))))))
      have hbb0 : (y) + ((yCycJobS.vcnt q_0 : Nat) : Int) ≤ 1000000000000000 ∧ 0 ≤ (y) := by have g0 : ((yCycJobS.vcnt q_0 : Nat) : Int) = ((yCycJobS.cnt q_0 : Nat) : Int) := rfl; have g1 : ((yTlmJobS.vcnt q_1 : Nat) : Int) = ((yTlmJobS.cnt q_1 : Nat) : Int) := rfl; omega
      have HBB0 := Hid.intro hbb0
      clear hbb0
      go_wp2_with fail
      refine (yCycJobS_mark q_0 _ (putC wr b []) ho0.out HQ.out.2.2.1 HBB0.out.2 HBB0.out.1).mono ?_
      rintro e w1 ⟨rfl, hk, x0, hv0, hx0, hf0, hn0, hw0, hm0⟩
      have HX0 := Hid.intro (And.intro hx0 (And.intro hf0 (And.intro hn0 (And.intro hw0 hm0))))
      clear hv0 hx0 hf0 hn0 hw0 hm0
      have HB0 : Hid (w1.heap[b]? = (putC wr b []).heap[b]?) := Hid.intro ((hk.block b (by rw [putC_size]; exact hwb) (fun hd => HQ.out.2.1 b (List.mem_append.2 (.inl (hd))) rfl)))
      have HK0 : Hid (Kept (fun x => x = b ∨ x ∈ yCycJobS.foot q_0) wr w1) := Hid.intro (((putC_kept (b := b) _ wr).mono (fun x e => .inl e)).trans (hk.mono (fun x e => .inr e)))
      replace c1 : w1.cell? ⟨b, j * 3 + 1, none⟩ = some (.slice q_1.p q_1.l.length q_1.c) := (World.cell?_of_block (w := putC wr b []) (a := ⟨b, j * 3 + 1, none⟩) HB0.out).trans ((putC_cell _ _ (by simp)).trans c1)
      replace f1 : w1.frozen? ⟨b, j * 3 + 1, none⟩ = false := (World.frozen?_of_block (w := putC wr b []) (a := ⟨b, j * 3 + 1, none⟩) HB0.out).trans (putC_frz hcur _)
      replace c2 : w1.cell? ⟨b, j * 3 + 2, none⟩ = some (.int .i64 q_2) := (World.cell?_of_block (w := putC wr b []) (a := ⟨b, j * 3 + 2, none⟩) HB0.out).trans ((putC_cell _ _ (by simp)).trans c2)
      replace f2 : w1.frozen? ⟨b, j * 3 + 2, none⟩ = false := (World.frozen?_of_block (w := putC wr b []) (a := ⟨b, j * 3 + 2, none⟩) HB0.out).trans (putC_frz hcur _)
      clear hk ho0 HBB0
      have ho1 : Hid (yTlmJobS.ow (putC w1 b []) q_1) := Hid.intro (yTlmJobS_law.ow_of HQ.out.1.2.1 (fun x hx => (putC_ne _ _ _ (HQ.out.2.1 x (List.mem_append.2 (.inr (List.mem_append.2 (.inl (hx))))))).trans (HK0.out.block x (yTlmJobS_law.ow_lt HQ.out.1.2.1 x hx) (fun hd => hd.elim (fun e => HQ.out.2.1 x (List.mem_append.2 (.inr (List.mem_append.2 (.inl (hx))))) e) (fun hd => HQ.out.2.2.2.2 x hx hd)))))
      have hcb1 : (putC w1 b []).heap[b]? = (putC wr b []).heap[b]? := (putC_cong _ HB0.out).trans (by rw [putC_app]; rfl)
      have HCB1 := Hid.intro hcb1
      clear hcb1
      have hbb1 : (y + ((yCycJobS.vcnt q_0 : Nat) : Int)) + ((yTlmJobS.vcnt q_1 : Nat) : Int) ≤ 1000000000000000 ∧ 0 ≤ (y + ((yCycJobS.vcnt q_0 : Nat) : Int)) := by have g0 : ((yCycJobS.vcnt q_0 : Nat) : Int) = ((yCycJobS.cnt q_0 : Nat) : Int) := rfl; have g1 : ((yTlmJobS.vcnt q_1 : Nat) : Int) = ((yTlmJobS.cnt q_1 : Nat) : Int) := rfl; omega
      have HBB1 := Hid.intro hbb1
      clear hbb1
      go_wp2_with fail
      refine (yTlmJobS_mark q_1 _ (putC w1 b []) ho1.out HQ.out.2.2.2.1 HBB1.out.2 HBB1.out.1).mono ?_
      rintro e w2 ⟨rfl, hk, x1, hv1, hx1, hf1, hn1, hw1, hm1⟩
      have HX1 := Hid.intro (And.intro hx1 (And.intro hf1 (And.intro hn1 (And.intro hw1 hm1))))
      clear hv1 hx1 hf1 hn1 hw1 hm1
      have HB1 : Hid (w2.heap[b]? = (putC wr b []).heap[b]?) := Hid.intro ((hk.block b (by rw [putC_size]; exact Nat.lt_of_lt_of_le hwb HK0.out.size) (fun hd => HQ.out.2.1 b (List.mem_append.2 (.inr (List.mem_append.2 (.inl (hd))))) rfl)).trans HCB1.out)
      have HK1 : Hid (Kept (fun x => (x = b ∨ x ∈ yCycJobS.foot q_0) ∨ x ∈ yTlmJobS.foot q_1) wr w2) := Hid.intro (((HK0.out.trans ((putC_kept (b := b) _ w1).mono (fun x e => .inl e))).mono (fun x e => .inl e)).trans (hk.mono (fun x e => .inr e)))
      have HW0 : Hid (yCycJobS.ow w2 x0) := Hid.intro (yCycJobS_law.ow_of HX0.out.2.2.2.1 (fun x hx => (hk.block x (by rw [putC_size]; exact yCycJobS_law.ow_lt HX0.out.2.2.2.1 x hx) (fun hd => HQ.out.2.2.2.2 x hd (by rw [← HX0.out.2.1]; exact hx))).trans (putC_ne _ _ _ (HQ.out.2.1 x (by have hx := hx; rw [HX0.out.2.1] at hx; exact List.mem_append.2 (.inl (hx)))))))
      replace c2 : w2.cell? ⟨b, j * 3 + 2, none⟩ = some (.int .i64 q_2) := (World.cell?_of_block (w := putC wr b []) (a := ⟨b, j * 3 + 2, none⟩) HB1.out).trans ((putC_cell _ _ (by simp)).trans K2.out)
      replace f2 : w2.frozen? ⟨b, j * 3 + 2, none⟩ = false := (World.frozen?_of_block (w := putC wr b []) (a := ⟨b, j * 3 + 2, none⟩) HB1.out).trans (putC_frz hcur _)
      clear hk ho1 HCB1 HBB1
      have HEND := Hid.intro (HSTP.out (x0, x1, (y + ((yCycJobS.vcnt q_0 : Nat) : Int) + ((yTlmJobS.vcnt q_1 : Nat) : Int))) [(j * 3 + 2, .int .i64 (y + ((yCycJobS.vcnt q_0 : Nat) : Int) + ((yTlmJobS.vcnt q_1 : Nat) : Int)))] (putC w2 b [(j * 3 + 2, .int .i64 (y + ((yCycJobS.vcnt q_0 : Nat) : Int) + ((yTlmJobS.vcnt q_1 : Nat) : Int)))]) (by show yCycJobS.foot x0 ++ (yTlmJobS.foot x1 ++ ([])) = yCycJobS.foot q_0 ++ (yTlmJobS.foot q_1 ++ ([])); rw [HX0.out.2.1, HX1.out.2.1]) (by show yCycJobS.cnt x0 + (yTlmJobS.cnt x1 + (1)) = yCycJobS.cnt q_0 + (yTlmJobS.cnt q_1 + (1)); rw [(show yCycJobS.cnt x0 = yCycJobS.cnt q_0 from HX0.out.2.2.1), (show yTlmJobS.cnt x1 = yTlmJobS.cnt q_1 from HX1.out.2.2.1)]) ⟨(show yCycJobS.mkd x0 (y) from cast (congrArg (yCycJobS.vmkd x0) (by omega)) HX0.out.2.2.2.2), (show yTlmJobS.mkd x1 (y + ((yCycJobS.cnt x0 : Nat) : Int)) from cast (congrArg (yTlmJobS.vmkd x1) (by have g0 : ((yCycJobS.cnt x0 : Nat) : Int) = ((yCycJobS.vcnt q_0 : Nat) : Int) := (by rw [show yCycJobS.cnt x0 = yCycJobS.vcnt q_0 from HX0.out.2.2.1]); omega)) HX1.out.2.2.2.2), (show (y + ((yCycJobS.vcnt q_0 : Nat) : Int) + ((yTlmJobS.vcnt q_1 : Nat) : Int)) = y + ((yCycJobS.cnt x0 : Nat) : Int) + ((yTlmJobS.cnt x1 : Nat) : Int) from by have g0 : ((yCycJobS.cnt x0 : Nat) : Int) = ((yCycJobS.vcnt q_0 : Nat) : Int) := (by rw [show yCycJobS.cnt x0 = yCycJobS.vcnt q_0 from HX0.out.2.2.1]); have g1 : ((yTlmJobS.cnt x1 : Nat) : Int) = ((yTlmJobS.vcnt q_1 : Nat) : Int) := (by rw [show yTlmJobS.cnt x1 = yTlmJobS.vcnt q_1 from HX1.out.2.2.1]); omega)⟩ ⟨(yCycJobS_law.ow_of HW0.out (fun x hx => putC_ne _ _ _ (HQ.out.2.1 x (by have hx := hx; rw [HX0.out.2.1] at hx; exact List.mem_append.2 (.inl (hx)))))), (yTlmJobS_law.ow_of HX1.out.2.2.2.1 (fun x hx => putC_ne _ _ _ (HQ.out.2.1 x (by have hx := hx; rw [HX1.out.2.1] at hx; exact List.mem_append.2 (.inr (List.mem_append.2 (.inl (hx)))))))), trivial⟩ ((putC_cong _ HB1.out).trans (by rw [putC_app]; rfl)) ((HK1.out.trans ((putC_kept (b := b) _ w2).mono (fun x e => .inl (.inl e)))).mono (by
          intro x
          rintro ((e | h) | h)
          · exact .inl e
          · exact .inr (show x ∈ yCycJobS.foot q_0 ++ (yTlmJobS.foot q_1 ++ ([])) from List.mem_append.2 (.inl (h)))
          · exact .inr (show x ∈ yCycJobS.foot q_0 ++ (yTlmJobS.foot q_1 ++ ([])) from List.mem_append.2 (.inr (List.mem_append.2 (.inl (h)))))))
        (by
          intro x hx
          show j * 3 ≤ x.1 ∧ x.1 < j * 3 + 3 ∧ (yCycSlave.cells (x0, x1, (y + ((yCycJobS.vcnt q_0 : Nat) : Int) + ((yTlmJobS.vcnt q_1 : Nat) : Int))))[x.1 - j * 3]? = some x.2
          simp only [List.mem_cons, List.not_mem_nil, or_false] at hx
          rcases hx with rfl
          · exact ⟨by simp only; omega, by simp only; omega, by simp only [Nat.add_sub_cancel_left]; rfl⟩)
        (by
          intro i hi
          have hi : i < 3 := hi
          have hd : i = 0 ∨ i = 1 ∨ i = 2 := by omega
          rcases hd with rfl | rfl | rfl
          · exact .inr (congrArg some (List.cons.inj (show [Value.slice x0.p x0.l.length x0.c] = [Value.slice q_0.p q_0.l.length q_0.c] from HX0.out.1)).1)
          · exact .inr (congrArg some (List.cons.inj (show [Value.slice x1.p x1.l.length x1.c] = [Value.slice q_1.p q_1.l.length q_1.c] from HX1.out.1)).1)
          · exact .inl ⟨(j * 3 + 2, .int .i64 (y + ((yCycJobS.vcnt q_0 : Nat) : Int) + ((yTlmJobS.vcnt q_1 : Nat) : Int))), by simp, rfl⟩))
      have HY2 : Hid (y + ((yCycJobS.vcnt q_0 : Nat) : Int) + ((yTlmJobS.vcnt q_1 : Nat) : Int) + 1 = k0 + ((cntL yCycSlave (l.take (j + 1)) : Nat) : Int)) := Hid.intro (by have h1 := HSC.out; have h2 := HY.out; have g0 : ((yCycJobS.vcnt q_0 : Nat) : Int) = ((yCycJobS.cnt q_0 : Nat) : Int) := rfl; have g1 : ((yTlmJobS.vcnt q_1 : Nat) : Int) = ((yTlmJobS.cnt q_1 : Nat) : Int) := rfl; omega)
      have hYN : (y + ((yCycJobS.vcnt q_0 : Nat) : Int) + ((yTlmJobS.vcnt q_1 : Nat) : Int) + 1) ≤ 1000000000000000 ∧ 0 ≤ (y + ((yCycJobS.vcnt q_0 : Nat) : Int) + ((yTlmJobS.vcnt q_1 : Nat) : Int) + 1) := by have g0 : ((yCycJobS.vcnt q_0 : Nat) : Int) = ((yCycJobS.cnt q_0 : Nat) : Int) := rfl; have g1 : ((yTlmJobS.vcnt q_1 : Nat) : Int) = ((yTlmJobS.cnt q_1 : Nat) : Int) := rfl; omega
      have hYN1 := hYN.1
      have hYN2 := hYN.2
      clear hYN
      clear HSTP HSC HY HQ HQE HYS hcur HX0 HB0 HK0 HX1 HB1 HK1 HW0
      go_wp2
      go_roundw
      case rel => exact ⟨j + 1, _, ys.set j (x0, x1, (y + ((yCycJobS.vcnt q_0 : Nat) : Int) + ((yTlmJobS.vcnt q_1 : Nat) : Int))), by omega, by go_num, rfl, by omega, HY2, HEND⟩
      case measure => simp [intOf]; omega
    · have hk3 : ¬ (j : Int) < (l.length : Int) := by omega
      have HE : Hid (y = k0 + ((cntL yCycSlave l : Nat) : Int)) := Hid.intro (by have := HY.out; rwa [show j = l.length by omega, List.take_length] at this)
      clear HY
      go_wp2
      go_ret
      exact ⟨congrArg (fun z => Ending.returned (Value.int .i64 z)) HE.out, HM.out.kept, HM.out.done yCycSlave_law (by omega) hl1 hl2⟩

set_option maxRecDepth 100000 in
set_option maxHeartbeats 2000000 in
theorem yCycSlaveS_held : HeldC yCycSlaveS 27 := by
  rintro ⟨p, c, l⟩ k0 w hr hm h0 h1
  have hl1 : l.length ≤ c := hr.1
  have hl2 : c ≤ 9223372036854775807 := hr.2.1
  have HC : Hid (k0 + ((cntL yCycSlave l : Nat) : Int) ≤ 1000000000000000) := Hid.intro h1
  have HM : Hid (mkdL yCycSlave l k0) := Hid.intro hm
  have HR := Hid.intro hr
  clear hr hm h1
  show Calls Try.prog 27 #[.slice p l.length c, .int .i64 k0] w fun e w' => e = .returned (.int .i64 (k0 + ((cntL yCycSlave l : Nat) : Int))) ∧ Below w.heap.size w w'
  go_enter Try.func27, Try.ntmps27
  go_wp2
  go_loopw [5, 1] (fun i kk wr => ∃ (j : Nat) (y : Int), j ≤ l.length ∧ i = .int .i64 j ∧ kk = .int .i64 y ∧ 0 ≤ y ∧ Hid (y = k0 + ((cntL yCycSlave (l.take j) : Nat) : Int)) ∧ Below w.heap.size w wr) (fun i _ _ => l.length - (intOf i).toNat)
  case atStart => exact ⟨0, k0, Nat.zero_le _, rfl, rfl, h0, Hid.intro (by simp [cntL]), Below.refl _ _⟩
  case round =>
    obtain ⟨j, y, hj, rfl, rfl, hy0, HY, hbl⟩ := hrel
    by_cases hlt : j < l.length
    · have hp := yCycSlaveS_law.rd_blw HR.out hbl
      have hq := hp.2.2.2 _ (List.getElem_mem hlt)
      have hj0 : (0 : Int) ≤ (j : Int) := by omega
      have hj1 : (j : Int) < (l.length : Int) := by omega
      have hst := cntL_take yCycSlave hlt
      have hpt := cntL_part yCycSlave l (j + 1)
      have hm := mkdL_at HM.out hlt
      rw [← HY.out] at hm
      have hbd : y + ((yCycSlave.cnt l[j] : Nat) : Int) ≤ 1000000000000000 := by have h1 := HC.out; have h2 := HY.out; omega
      have hc : ∃ b off, p = some ⟨b, off, none⟩ ∧ b < wr.heap.size ∧ ∀ (i : Nat) (v : Value), (yCycSlave.cells l[j])[i]? = some v → wr.cell? ⟨b, off + j * 3 + i, none⟩ = some v := by
        rcases hp.2.2.1 with h0 | ⟨b, off, e, hb, hc⟩
        · have h0 : l = [] := h0
          subst h0; simp at hlt
        · exact ⟨b, off, e, hb, fun i v hv => hc j hlt i v hv⟩
      obtain ⟨b, off, rfl, hb, hc⟩ := hc
      clear hp hpt
      generalize l[j] = q at hq hst hc hm hbd
      obtain ⟨q_0, q_1, q_2⟩ := q
      have hbd : y + ((yCycJobS.cnt q_0 + (yTlmJobS.cnt q_1 + (1)) : Nat) : Int) ≤ 1000000000000000 := hbd
      have HST : Hid (cntL yCycSlave (l.take (j + 1)) = cntL yCycSlave (l.take j) + (yCycJobS.cnt q_0 + (yTlmJobS.cnt q_1 + (1)))) := Hid.intro hst
      have c0 : wr.cell? ⟨b, off + j * 3, none⟩ = some (.slice q_0.p q_0.l.length q_0.c) := hc 0 _ rfl
      have c1 : wr.cell? ⟨b, off + j * 3 + 1, none⟩ = some (.slice q_1.p q_1.l.length q_1.c) := hc 1 _ rfl
      have c2 : wr.cell? ⟨b, off + j * 3 + 2, none⟩ = some (.int .i64 q_2) := hc 2 _ rfl
      have e2 : q_2 = y + ((yCycJobS.vcnt q_0 : Nat) : Int) + ((yTlmJobS.vcnt q_1 : Nat) : Int) := (show q_2 = y + ((yCycJobS.cnt q_0 : Nat) : Int) + ((yTlmJobS.cnt q_1 : Nat) : Int) from hm.2.2).trans (by have g0 : ((yCycJobS.vcnt q_0 : Nat) : Int) = ((yCycJobS.cnt q_0 : Nat) : Int) := rfl; have g1 : ((yTlmJobS.vcnt q_1 : Nat) : Int) = ((yTlmJobS.cnt q_1 : Nat) : Int) := rfl; omega)
      rw [e2] at c2
      have HQ := Hid.intro (And.intro hq hm)
      clear hq hm hc hst e2
      have hmk0 : yCycJobS.vmkd q_0 (y) := cast (congrArg (yCycJobS.vmkd q_0) (by have g0 : ((yCycJobS.vcnt q_0 : Nat) : Int) = ((yCycJobS.cnt q_0 : Nat) : Int) := rfl; have g1 : ((yTlmJobS.vcnt q_1 : Nat) : Int) = ((yTlmJobS.cnt q_1 : Nat) : Int) := rfl; omega)) (show yCycJobS.mkd q_0 (y) from HQ.out.2.1)
      have hbb0 : (y) + ((yCycJobS.vcnt q_0 : Nat) : Int) ≤ 1000000000000000 ∧ 0 ≤ (y) := by have g0 : ((yCycJobS.vcnt q_0 : Nat) : Int) = ((yCycJobS.cnt q_0 : Nat) : Int) := rfl; have g1 : ((yTlmJobS.vcnt q_1 : Nat) : Int) = ((yTlmJobS.cnt q_1 : Nat) : Int) := rfl; omega
      have HC0 := Hid.intro (And.intro hmk0 hbb0)
      clear hmk0
      go_wp2_with fail
      refine (yCycJobS_held q_0 _ _ (yCycJobS_law.rd_blw HQ.out.1.1 (Below.refl _ wr)) HC0.out.1 HC0.out.2.2 HC0.out.2.1).mono ?_
      rintro e w1 ⟨rfl, hb1⟩
      have bw0 : Below wr.heap.size wr w1 := hb1
      have hI0 : ¬ (y + ((yCycJobS.vcnt q_0 : Nat) : Int) < 0) := by have := HC0.out.2; omega
      replace c1 : w1.cell? ⟨b, off + j * 3 + 1, none⟩ = some (.slice q_1.p q_1.l.length q_1.c) := (hb1.cell (p := ⟨b, off + j * 3 + 1, none⟩) hb).trans c1
      replace c2 : w1.cell? ⟨b, off + j * 3 + 2, none⟩ = some (.int .i64 (y + ((yCycJobS.vcnt q_0 : Nat) : Int) + ((yTlmJobS.vcnt q_1 : Nat) : Int))) := (hb1.cell (p := ⟨b, off + j * 3 + 2, none⟩) hb).trans c2
      clear hb1 HC0
      have hmk1 : yTlmJobS.vmkd q_1 (y + ((yCycJobS.vcnt q_0 : Nat) : Int)) := cast (congrArg (yTlmJobS.vmkd q_1) (by have g0 : ((yCycJobS.vcnt q_0 : Nat) : Int) = ((yCycJobS.cnt q_0 : Nat) : Int) := rfl; have g1 : ((yTlmJobS.vcnt q_1 : Nat) : Int) = ((yTlmJobS.cnt q_1 : Nat) : Int) := rfl; omega)) (show yTlmJobS.mkd q_1 (y + ((yCycJobS.cnt q_0 : Nat) : Int)) from HQ.out.2.2.1)
      have hbb1 : (y + ((yCycJobS.vcnt q_0 : Nat) : Int)) + ((yTlmJobS.vcnt q_1 : Nat) : Int) ≤ 1000000000000000 ∧ 0 ≤ (y + ((yCycJobS.vcnt q_0 : Nat) : Int)) := by have g0 : ((yCycJobS.vcnt q_0 : Nat) : Int) = ((yCycJobS.cnt q_0 : Nat) : Int) := rfl; have g1 : ((yTlmJobS.vcnt q_1 : Nat) : Int) = ((yTlmJobS.cnt q_1 : Nat) : Int) := rfl; omega
      have HC1 := Hid.intro (And.intro hmk1 hbb1)
      clear hmk1
      go_wp2_with fail
      refine (yTlmJobS_held q_1 _ _ (yTlmJobS_law.rd_blw HQ.out.1.2.1 bw0) HC1.out.1 HC1.out.2.2 HC1.out.2.1).mono ?_
      rintro e w2 ⟨rfl, hb1⟩
      have bw1 : Below wr.heap.size wr w2 := bw0.trans (hb1.mono bw0.size)
      have hI1 : ¬ (y + ((yCycJobS.vcnt q_0 : Nat) : Int) + ((yTlmJobS.vcnt q_1 : Nat) : Int) < 0) := by have := HC1.out.2; omega
      replace c2 : w2.cell? ⟨b, off + j * 3 + 2, none⟩ = some (.int .i64 (y + ((yCycJobS.vcnt q_0 : Nat) : Int) + ((yTlmJobS.vcnt q_1 : Nat) : Int))) := (hb1.cell (p := ⟨b, off + j * 3 + 2, none⟩) (Nat.lt_of_lt_of_le hb bw0.size)).trans c2
      clear hb1 HC1
      have HY2 : Hid (y + ((yCycJobS.vcnt q_0 : Nat) : Int) + ((yTlmJobS.vcnt q_1 : Nat) : Int) + 1 = k0 + ((cntL yCycSlave (l.take (j + 1)) : Nat) : Int)) := Hid.intro (by have h1 := HST.out; have h2 := HY.out; have g0 : ((yCycJobS.vcnt q_0 : Nat) : Int) = ((yCycJobS.cnt q_0 : Nat) : Int) := rfl; have g1 : ((yTlmJobS.vcnt q_1 : Nat) : Int) = ((yTlmJobS.cnt q_1 : Nat) : Int) := rfl; omega)
      have hYN : (y + ((yCycJobS.vcnt q_0 : Nat) : Int) + ((yTlmJobS.vcnt q_1 : Nat) : Int) + 1) ≤ 1000000000000000 ∧ 0 ≤ (y + ((yCycJobS.vcnt q_0 : Nat) : Int) + ((yTlmJobS.vcnt q_1 : Nat) : Int) + 1) := by have g0 : ((yCycJobS.vcnt q_0 : Nat) : Int) = ((yCycJobS.cnt q_0 : Nat) : Int) := rfl; have g1 : ((yTlmJobS.vcnt q_1 : Nat) : Int) = ((yTlmJobS.cnt q_1 : Nat) : Int) := rfl; omega
      have hYN1 := hYN.1
      have hYN2 := hYN.2
      clear hYN
      have HBL := Hid.intro (hbl.trans (bw1.mono hbl.size))
      clear HQ HST HY
      go_wp2
      go_roundw
      case rel => exact ⟨j + 1, _, by omega, by go_num, rfl, by omega, HY2, HBL.out⟩
      case measure => simp [intOf]; omega
    · have hk3 : ¬ (j : Int) < (l.length : Int) := by omega
      have HE : Hid (y = k0 + ((cntL yCycSlave l : Nat) : Int)) := Hid.intro (by have := HY.out; rwa [show j = l.length by omega, List.take_length] at this)
      clear HY
      go_wp2
      go_ret
      exact ⟨congrArg (fun z => Ending.returned (Value.int .i64 z)) HE.out, hbl⟩

end Go.Proofs.Ytpjfkimgienkbab
