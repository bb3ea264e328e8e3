/-
  CycPort: the laws' functions, by contract of kinds.
-/
import Derived.Test.YtpjfkimgienkbabKCycJob
import Derived.Test.YtpjfkimgienkbabKndI
import Derived.Test.YtpjfkimgienkbabKndLM
import Derived.Test.YtpjfkimgienkbabOpsXM
namespace Go.Proofs.Ytpjfkimgienkbab
open Go.RowKit
set_option linter.unusedSimpArgs false
set_option linter.unusedVariables false

def yCycPort : Knd (Int × (Lst Int) × (Lst (Int × Int × Int)) × Int) (Int × (List Int) × (List (Int × Int × Int)) × Int) := gRec (gPair gInt (gPair yI (gPair yCycJobS gInt)))
theorem yCycPort_law : KLaw yCycPort := gRec_law (gPair_law gInt_law (gPair_law yI_law (gPair_law yCycJobS_law gInt_law)))
theorem yCycPort_val (f : (Int × (Lst Int) × (Lst (Int × Int × Int)) × Int)) : yCycPort.val f = .agg #[.int .i64 f.1, .slice f.2.1.p f.2.1.l.length f.2.1.c, .slice f.2.2.1.p f.2.2.1.l.length f.2.2.1.c, .int .i64 f.2.2.2] := rfl
theorem yCycPort_cells (f : (Int × (Lst Int) × (Lst (Int × Int × Int)) × Int)) : yCycPort.cells f = [.int .i64 f.1, .slice f.2.1.p f.2.1.l.length f.2.1.c, .slice f.2.2.1.p f.2.2.1.l.length f.2.2.1.c, .int .i64 f.2.2.2] := rfl

set_option maxRecDepth 100000 in
set_option maxHeartbeats 2000000 in
theorem yCycPort_eq : EqC yCycPort 39 := by
  rintro ⟨f_0, f_1, f_2, f_3⟩ ⟨g_0, g_1, g_2, g_3⟩ w hr hr' hp
  have hp' : ((f_0, yI.pl f_1, yCycJobS.pl f_2, f_3) : (Int × (List Int) × (List (Int × Int × Int)) × Int)) = (g_0, yI.pl g_1, yCycJobS.pl g_2, g_3) := hp
  clear hp
  simp only [Prod.mk.injEq] at hp'
  obtain ⟨rfl, p1, p2, rfl⟩ := hp'
  have HR := Hid.intro hr
  have HQ := Hid.intro hr'
  clear hr hr'
  have hbl : ∀ o o', Below w.heap.size w ((w.alloc o).alloc o') := fun o o' => ((Below.refl _ w).alloc (Nat.le_refl _) o).alloc (by simp) o'
  show Calls Try.prog 39 #[.agg #[.int .i64 f_0, .slice f_1.p f_1.l.length f_1.c, .slice f_2.p f_2.l.length f_2.c, .int .i64 f_3], .agg #[.int .i64 f_0, .slice g_1.p g_1.l.length g_1.c, .slice g_2.p g_2.l.length g_2.c, .int .i64 f_3]] w _
  go_enter Try.func39, Try.ntmps39
  have HC1 : Hid (∀ (w : World), yI.rd w f_1 → yI.rd w g_1 → yI.pl f_1 = yI.pl g_1 → Calls Try.prog 38 #[.slice f_1.p f_1.l.length f_1.c, .slice g_1.p g_1.l.length g_1.c] w fun e w' => e = .returned (.bool true) ∧ Below w.heap.size w w') := Hid.intro (yI_eq f_1 g_1)
  go_wp2_with fail
  refine (HC1.out _ (yI_law.rd_blw HR.out.2.1 (hbl _ _)) (yI_law.rd_blw HQ.out.2.1 (hbl _ _)) p1).mono ?_
  clear HC1
  rintro e w1 ⟨rfl, hb⟩
  have bel0 : Below w.heap.size w w1 := (hbl _ _).trans (hb.mono (hbl _ _).size)
  have bA0 : w1.heap[w.heap.size]? = some (.cells #[.int .i64 f_0, .slice f_1.p f_1.l.length f_1.c, .slice f_2.p f_2.l.length f_2.c, .int .i64 f_3] 46 (0, 0)) := (hb.block _ (by simp <;> omega)).trans ((Below.heap_alloc _ _ _ (by simp)).trans (nw_k _ rfl))
  have bB0 : w1.heap[w.heap.size + 1]? = some (.cells #[.int .i64 f_0, .slice g_1.p g_1.l.length g_1.c, .slice g_2.p g_2.l.length g_2.c, .int .i64 f_3] 46 (0, 0)) := (hb.block _ (by simp)).trans (nw_k _ (by simp))
  clear hb
  have c0 : w1.cell? ⟨w.heap.size, 0, none⟩ = some (.int .i64 f_0) := heap_cell bA0 0
  have c1 : w1.cell? ⟨w.heap.size, 1, none⟩ = some (.slice f_1.p f_1.l.length f_1.c) := heap_cell bA0 1
  have c2 : w1.cell? ⟨w.heap.size, 2, none⟩ = some (.slice f_2.p f_2.l.length f_2.c) := heap_cell bA0 2
  have c3 : w1.cell? ⟨w.heap.size, 3, none⟩ = some (.int .i64 f_3) := heap_cell bA0 3
  have d0 : w1.cell? ⟨w.heap.size + 1, 0, none⟩ = some (.int .i64 f_0) := heap_cell bB0 0
  have d1 : w1.cell? ⟨w.heap.size + 1, 1, none⟩ = some (.slice g_1.p g_1.l.length g_1.c) := heap_cell bB0 1
  have d2 : w1.cell? ⟨w.heap.size + 1, 2, none⟩ = some (.slice g_2.p g_2.l.length g_2.c) := heap_cell bB0 2
  have d3 : w1.cell? ⟨w.heap.size + 1, 3, none⟩ = some (.int .i64 f_3) := heap_cell bB0 3
  have HC2 : Hid (∀ (w : World), yCycJobS.rd w f_2 → yCycJobS.rd w g_2 → yCycJobS.pl f_2 = yCycJobS.pl g_2 → Calls Try.prog 48 #[.slice f_2.p f_2.l.length f_2.c, .slice g_2.p g_2.l.length g_2.c] w fun e w' => e = .returned (.bool true) ∧ Below w.heap.size w w') := Hid.intro (yCycJobS_eq f_2 g_2)
  go_wp2_with fail
  refine (HC2.out w1 (yCycJobS_law.rd_blw HR.out.2.2.1 bel0) (yCycJobS_law.rd_blw HQ.out.2.2.1 bel0) p2).mono ?_
  clear HC2
  rintro e w2 ⟨rfl, hb⟩
  have bel1 : Below w.heap.size w w2 := bel0.trans (hb.mono bel0.size)
  have bA1 : w2.heap[w.heap.size]? = some (.cells #[.int .i64 f_0, .slice f_1.p f_1.l.length f_1.c, .slice f_2.p f_2.l.length f_2.c, .int .i64 f_3] 46 (0, 0)) := (hb.block _ (heap_lt bA0)).trans bA0
  have bB1 : w2.heap[w.heap.size + 1]? = some (.cells #[.int .i64 f_0, .slice g_1.p g_1.l.length g_1.c, .slice g_2.p g_2.l.length g_2.c, .int .i64 f_3] 46 (0, 0)) := (hb.block _ (heap_lt bB0)).trans bB0
  clear bel0 bA0 bB0 c0 c1 c2 c3 d0 d1 d2 d3
  clear hb
  have c0 : w2.cell? ⟨w.heap.size, 0, none⟩ = some (.int .i64 f_0) := heap_cell bA1 0
  have c1 : w2.cell? ⟨w.heap.size, 1, none⟩ = some (.slice f_1.p f_1.l.length f_1.c) := heap_cell bA1 1
  have c2 : w2.cell? ⟨w.heap.size, 2, none⟩ = some (.slice f_2.p f_2.l.length f_2.c) := heap_cell bA1 2
  have c3 : w2.cell? ⟨w.heap.size, 3, none⟩ = some (.int .i64 f_3) := heap_cell bA1 3
  have d0 : w2.cell? ⟨w.heap.size + 1, 0, none⟩ = some (.int .i64 f_0) := heap_cell bB1 0
  have d1 : w2.cell? ⟨w.heap.size + 1, 1, none⟩ = some (.slice g_1.p g_1.l.length g_1.c) := heap_cell bB1 1
  have d2 : w2.cell? ⟨w.heap.size + 1, 2, none⟩ = some (.slice g_2.p g_2.l.length g_2.c) := heap_cell bB1 2
  have d3 : w2.cell? ⟨w.heap.size + 1, 3, none⟩ = some (.int .i64 f_3) := heap_cell bB1 3
  clear HR HQ
  go_wp2
  go_ret
  exact ⟨rfl, bel1⟩

def yCycPortS : Knd (Lst (Int × (Lst Int) × (Lst (Int × Int × Int)) × Int)) (List (Int × (List Int) × (List (Int × Int × Int)) × Int)) := gLst 46 yCycPort
theorem yCycPortS_law : KLaw yCycPortS := gLst_law yCycPort_law (by decide)

set_option maxRecDepth 100000 in
set_option maxHeartbeats 2000000 in
theorem yCycPortS_eq : EqC yCycPortS 20 := by
  rintro ⟨p, c, l⟩ ⟨p', c', m⟩ w hr hr' hpl
  have hl1 : l.length ≤ c := hr.1
  have hl2 : c ≤ 9223372036854775807 := hr.2.1
  have hl3 : m.length ≤ c' := hr'.1
  have hl4 : c' ≤ 9223372036854775807 := hr'.2.1
  have hpl' : l.map yCycPort.pl = m.map yCycPort.pl := hpl
  have hlm : l.length = m.length := by have := congrArg List.length hpl'; simpa using this
  have HP := Hid.intro hr
  have HQ := Hid.intro hr'
  have HE := Hid.intro hpl'
  clear hr hr' hpl hpl'
  obtain ⟨n, hn⟩ : ∃ n, n = l.length := ⟨_, rfl⟩
  have HN := Hid.intro (And.intro hn (hn.trans hlm))
  show Calls Try.prog 20 #[.slice p l.length c, .slice p' m.length c'] w _
  rw [← hlm, ← hn]
  have hn1 : n ≤ 9223372036854775807 := by omega
  clear hn hlm hl1 hl2 hl3 hl4
  go_enter Try.func20, Try.ntmps20
  go_wp2
  go_loopw [5] (fun i wr => ∃ k : Nat, k ≤ n ∧ i = .int .i64 k ∧ Below w.heap.size w wr) (fun i _ => n - (intOf i).toNat)
  case atStart => exact ⟨0, Nat.zero_le _, rfl, Below.refl _ _⟩
  case round =>
    obtain ⟨k, hk, rfl, hbl⟩ := hrel
    by_cases hlt : k < n
    · have hk0 : (0 : Int) ≤ (k : Int) := by omega
      have hk1 : (k : Int) < (n : Int) := by omega
      have hp := yCycPortS_law.rd_blw HP.out hbl
      have hq := yCycPortS_law.rd_blw HQ.out hbl
      have ly : k < l.length := by have := HN.out.1; omega
      have lz : k < m.length := by have := HN.out.2; omega
      have hxx : yCycPort.pl l[k] = yCycPort.pl m[k] := by
        have e1 : (l.map yCycPort.pl)[k]? = (m.map yCycPort.pl)[k]? := by rw [HE.out]
        simpa [ly, lz] using e1
      have hpa := hp.2.2.2 _ (List.getElem_mem ly)
      have hqa := hq.2.2.2 _ (List.getElem_mem lz)
      have hcp : ∃ b off, p = some ⟨b, off, none⟩ ∧ b < wr.heap.size ∧ ∀ (j : Nat) (v : Value), (yCycPort.cells l[k])[j]? = some v → wr.cell? ⟨b, off + k * 4 + j, none⟩ = some v := by
        rcases hp.2.2.1 with h0 | ⟨b, off, e, hb, hc⟩
        · have h0 : l = [] := h0
          rw [h0] at ly; simp at ly
        · exact ⟨b, off, e, hb, fun j v hv => hc k ly j v hv⟩
      obtain ⟨b, off, rfl, hb, hcp⟩ := hcp
      have hcq : ∃ b off, p' = some ⟨b, off, none⟩ ∧ b < wr.heap.size ∧ ∀ (j : Nat) (v : Value), (yCycPort.cells m[k])[j]? = some v → wr.cell? ⟨b, off + k * 4 + j, none⟩ = some v := by
        rcases hq.2.2.1 with h0 | ⟨b, off, e, hb, hc⟩
        · have h0 : m = [] := h0
          rw [h0] at lz; simp at lz
        · exact ⟨b, off, e, hb, fun j v hv => hc k lz j v hv⟩
      obtain ⟨b', off', rfl, hb', hcq⟩ := hcq
      clear hp hq
      generalize l[k] = x at hxx hpa hcp
      generalize m[k] = z at hxx hqa hcq
      obtain ⟨x_0, x_1, x_2, x_3⟩ := x
      obtain ⟨z_0, z_1, z_2, z_3⟩ := z
      have u0 : wr.cell? ⟨b, off + k * 4, none⟩ = some (.int .i64 x_0) := hcp 0 _ rfl
      have u1 : wr.cell? ⟨b, off + k * 4 + 1, none⟩ = some (.slice x_1.p x_1.l.length x_1.c) := hcp 1 _ rfl
      have u2 : wr.cell? ⟨b, off + k * 4 + 2, none⟩ = some (.slice x_2.p x_2.l.length x_2.c) := hcp 2 _ rfl
      have u3 : wr.cell? ⟨b, off + k * 4 + 3, none⟩ = some (.int .i64 x_3) := hcp 3 _ rfl
      have y0 : wr.cell? ⟨b', off' + k * 4, none⟩ = some (.int .i64 z_0) := hcq 0 _ rfl
      have y1 : wr.cell? ⟨b', off' + k * 4 + 1, none⟩ = some (.slice z_1.p z_1.l.length z_1.c) := hcq 1 _ rfl
      have y2 : wr.cell? ⟨b', off' + k * 4 + 2, none⟩ = some (.slice z_2.p z_2.l.length z_2.c) := hcq 2 _ rfl
      have y3 : wr.cell? ⟨b', off' + k * 4 + 3, none⟩ = some (.int .i64 z_3) := hcq 3 _ rfl
      have HP1 := Hid.intro (And.intro hpa (And.intro u0 (And.intro u1 (And.intro u2 u3))))
      have HQ1 := Hid.intro (And.intro hqa (And.intro y0 (And.intro y1 (And.intro y2 y3))))
      have HXX := Hid.intro hxx
      clear hpa hqa hxx hcp hcq ly lz u0 u1 u2 u3 y0 y1 y2 y3
      go_wp2_with fail
      refine wp_region_typed (by kernel_rfl) Gr (fun _ W => Below wr.heap.size wr W)
        (tab [(17, kIs (.slice (some ⟨b, off, none⟩) n c)), (18, kIs (.int .i64 k)), (19, kIs (.pointer (some ⟨b, off + k * 4, none⟩))), (20, kIs (.agg #[.int .i64 x_0, .slice x_1.p x_1.l.length x_1.c, .slice x_2.p x_2.l.length x_2.c, .int .i64 x_3])), (21, kIs (.slice (some ⟨b', off', none⟩) n c')), (22, kIs (.int .i64 k)), (23, kIs (.pointer (some ⟨b', off' + k * 4, none⟩))), (24, kIs (.agg #[.int .i64 z_0, .slice z_1.p z_1.l.length z_1.c, .slice z_2.p z_2.l.length z_2.c, .int .i64 z_3])), (25, kIs (.bool true)), (26, kIs (.bool false))])
        [17, 18, 19, 20, 21, 22, 23, 24, 25, 26] (by kernel_rfl) (by kernel_rfl) ?_ ?_ ?_ ?_
      · refine tabR_stable ?_
        intro y hy
        simp only [List.mem_cons, List.not_mem_nil, or_false] at hy
        rcases hy with rfl | rfl | rfl | rfl | rfl | rfl | rfl | rfl | rfl | rfl
        all_goals intro w w' v hr hv
        all_goals exact hv
      · exact (Below.refl _ _).drew
      · refine ops_cons (gd rfl <| ty_move_out (.inl rfl) rfl (by kernel_rfl) rfl (fun _ _ h => h) Gr.refl) ?_
        refine ops_cons (gd rfl <| ty_move_out (.inl rfl) rfl (by kernel_rfl) rfl (fun _ _ h => h) Gr.refl) ?_
        refine ops_cons (gd rfl <| tx_pure rfl rfl (fun _ _ h => h) Gr.refl (fun _ ρ W hat hW => ?_)) ?_
        · have e1 : ρ (.tmp 17) = _ := hat.dep 17 (by kernel_rfl)
          have e2 : ρ (.tmp 18) = _ := hat.dep 18 (by kernel_rfl)
          simp only [execOp, e1, e2]; go_simp
        refine ops_cons (gd rfl <| tx_pure rfl rfl (fun _ _ h => h) Gr.refl (fun _ ρ W hat hW => ?_)) ?_
        · have e1 : ρ (.tmp 19) = _ := hat.dep 19 (by kernel_rfl)
          obtain ⟨u0, u1, u2, u3⟩ := HP1.out.2
          have v0 := (hW.cell (p := ⟨b, off + k * 4, none⟩) hb).trans u0
          have v1 := (hW.cell (p := ⟨b, off + k * 4 + 1, none⟩) hb).trans u1
          have v2 := (hW.cell (p := ⟨b, off + k * 4 + 2, none⟩) hb).trans u2
          have v3 := (hW.cell (p := ⟨b, off + k * 4 + 3, none⟩) hb).trans u3
          clear u0 u1 u2 u3
          simp only [execOp, e1]; go_simp
        refine ops_cons (gd rfl <| ty_move_out (.inl rfl) rfl (by kernel_rfl) rfl (fun _ _ h => h) Gr.refl) ?_
        refine ops_cons (gd rfl <| ty_move_out (.inl rfl) rfl (by kernel_rfl) rfl (fun _ _ h => h) Gr.refl) ?_
        refine ops_cons (gd rfl <| tx_pure rfl rfl (fun _ _ h => h) Gr.refl (fun _ ρ W hat hW => ?_)) ?_
        · have e1 : ρ (.tmp 21) = _ := hat.dep 21 (by kernel_rfl)
          have e2 : ρ (.tmp 22) = _ := hat.dep 22 (by kernel_rfl)
          simp only [execOp, e1, e2]; go_simp
        refine ops_cons (gd rfl <| tx_pure rfl rfl (fun _ _ h => h) Gr.refl (fun _ ρ W hat hW => ?_)) ?_
        · have e1 : ρ (.tmp 23) = _ := hat.dep 23 (by kernel_rfl)
          obtain ⟨y0, y1, y2, y3⟩ := HQ1.out.2
          have v0 := (hW.cell (p := ⟨b', off' + k * 4, none⟩) hb').trans y0
          have v1 := (hW.cell (p := ⟨b', off' + k * 4 + 1, none⟩) hb').trans y1
          have v2 := (hW.cell (p := ⟨b', off' + k * 4 + 2, none⟩) hb').trans y2
          have v3 := (hW.cell (p := ⟨b', off' + k * 4 + 3, none⟩) hb').trans y3
          clear y0 y1 y2 y3
          simp only [execOp, e1]; go_simp
        refine ops_cons (gd rfl <| tx_call rfl (fun _ ρ W _ hat hW => ?_)) ?_
        · have e1 : ρ (.tmp 20) = _ := hat.dep 20 (by kernel_rfl)
          have e2 : ρ (.tmp 24) = _ := hat.dep 24 (by kernel_rfl)
          have hf := hat.fn
          refine ⟨39, #[.agg #[.int .i64 x_0, .slice x_1.p x_1.l.length x_1.c, .slice x_2.p x_2.l.length x_2.c, .int .i64 x_3], .agg #[.int .i64 z_0, .slice z_1.p z_1.l.length z_1.c, .slice z_2.p z_2.l.length z_2.c, .int .i64 z_3]], by simp only [execOp]; go_simp, ?_⟩
          have hcl := yCycPort_eq (x_0, x_1, x_2, x_3) (z_0, z_1, z_2, z_3) W (yCycPort_law.rd_blw HP1.out.1 hW) (yCycPort_law.rd_blw HQ1.out.1 hW) HXX.out
          refine Calls.mono (show Calls Try.prog 39 #[.agg #[.int .i64 x_0, .slice x_1.p x_1.l.length x_1.c, .slice x_2.p x_2.l.length x_2.c, .int .i64 x_3], .agg #[.int .i64 z_0, .slice z_1.p z_1.l.length z_1.c, .slice z_2.p z_2.l.length z_2.c, .int .i64 z_3]] W _ from hcl) ?_
          rintro e W' ⟨rfl, hb⟩
          exact ⟨_, rfl, hW.trans (hb.mono hW.size), hb, rfl⟩
        refine ops_cons (gd rfl <| tx_pure rfl rfl (fun _ _ h => h) Gr.refl (fun _ ρ W hat hW => ?_)) ?_
        · have e1 : ρ (.tmp 25) = _ := hat.dep 25 (by kernel_rfl)
          simp only [execOp, e1]; go_simp
        exact ops_nil
      · intro f W hW hf
        have e26 : f 26 = .bool false := hf 26 (by simp)
        clear hf
        have hbW := hbl.trans (hW.mono hbl.size)
        simp only [fill, e26]
        go_simp
        go_wp2
        go_roundw
        case rel => exact ⟨k + 1, by omega, by go_num, hbW⟩
        case measure => simp [intOf]; omega
    · have hk3 : ¬ (k : Int) < (n : Int) := by omega
      go_wp2
      go_ret
      exact ⟨rfl, hbl⟩

theorem Try.infoCycPortS : (Try.prog.info? 46).map (fun i => (i.zero, i.size, i.bytes)) = some (some (.agg #[.int .i64 0, .slice none 0 0, .slice none 0 0, .int .i64 0]), 4, 64) := by kernel_rfl

set_option maxRecDepth 100000 in
set_option maxHeartbeats 2000000 in
theorem yCycPortS_mark : MarkC yCycPortS 23 := by
  rintro ⟨p, c, l⟩ k0 w ho hn h0 h1
  have hl1 : l.length ≤ c := ho.1
  have hl2 : c ≤ 9223372036854775807 := ho.2.1
  have HC : Hid (k0 + ((cntL yCycPort l : Nat) : Int) ≤ 1000000000000000) := Hid.intro h1
  have HN := Hid.intro hn
  have HS : Hid (MarkSt yCycPort 46 l p c k0 w w 0 l) := Hid.intro (MarkSt.start ho k0)
  clear ho hn h1
  show Calls Try.prog 23 #[.slice p l.length c, .int .i64 k0] w fun e w' => e = .returned (.int .i64 (k0 + ((cntL yCycPort l : Nat) : Int))) ∧ Kept (fun b => b ∈ yCycPortS.foot ⟨p, c, l⟩) w w' ∧ ∃ a', yCycPortS.val a' = yCycPortS.val ⟨p, c, l⟩ ∧ yCycPortS.cells a' = yCycPortS.cells ⟨p, c, l⟩ ∧ yCycPortS.foot a' = yCycPortS.foot ⟨p, c, l⟩ ∧ yCycPortS.vcnt a' = yCycPortS.vcnt ⟨p, c, l⟩ ∧ yCycPortS.ow w' a' ∧ yCycPortS.vmkd a' k0
  go_enter Try.func23, Try.ntmps23
  go_wp2
  go_loopw [5, 1] (fun i kk wr => ∃ (j : Nat) (y : Int) (ys : List (Int × (Lst Int) × (Lst (Int × Int × Int)) × Int)), j ≤ l.length ∧ i = .int .i64 j ∧ kk = .int .i64 y ∧ 0 ≤ y ∧ Hid (y = k0 + ((cntL yCycPort (l.take j) : Nat) : Int)) ∧ Hid (MarkSt yCycPort 46 l p c k0 w wr j ys)) (fun i _ _ => l.length - (intOf i).toNat)
  case atStart => exact ⟨0, k0, l, Nat.zero_le _, rfl, rfl, h0, Hid.intro (by simp [cntL]), HS⟩
  case round =>
    clear HS
    obtain ⟨j, y, ys, hj, rfl, rfl, hy0, HY, HM⟩ := hrel
    by_cases hlt : j < l.length
    · have hj0 : (0 : Int) ≤ (j : Int) := by omega
      have hj1 : (j : Int) < (l.length : Int) := by omega
      obtain ⟨hy, b, hpb, hO, hqo, hqn, hqb, hqc⟩ := HM.out.elem HN.out hlt
      subst hpb
      have hc : ∀ (i : Nat) (v : Value), (yCycPort.cells ys[j])[i]? = some v → wr.cell? ⟨b, j * 4 + i, none⟩ = some v := fun i v hv => hO.rowcell yCycPort_law.len hy i v hv
      have hfz : ∀ o, wr.frozen? ⟨b, o, none⟩ = false := hO.frz
      obtain ⟨cur, hcur⟩ : ∃ cur, wr.heap[b]? = some (.cells cur 46 (0, 0)) := by obtain ⟨cur, h, _⟩ := hO; exact ⟨cur, h⟩
      have hstep := cntL_take yCycPort hlt
      have hpart := cntL_part yCycPort l (j + 1)
      rw [← hqc] at hstep
      have hSTP := fun (q : (Int × (Lst Int) × (Lst (Int × Int × Int)) × Int)) (vs : List (Nat × Value)) (W : World) => HM.out.step yCycPort_law (W := W) HN.out hlt hy q vs
      have hwb := hO.lt
      clear hO HM hqc
      have hB : y + ((yCycPort.cnt ys[j] : Nat) : Int) ≤ 1000000000000000 := by have h1 := HC.out; have h2 := HY.out; omega
      have hYe : k0 + ((cntL yCycPort (l.take j) : Nat) : Int) = y := HY.out.symm
      simp only [hYe] at hSTP
      clear hYe
      clear hpart
      have HYS := Hid.intro (⟨ys, rfl⟩ : ∃ zs, zs = ys)
      generalize hqe : ys[j] = q at hqo hqn hqb hc hB hSTP hstep
      have HQE := Hid.intro hqe
      clear hqe
      obtain ⟨q_0, q_1, q_2, q_3⟩ := q
      have c0 : wr.cell? ⟨b, j * 4, none⟩ = some (.int .i64 q_0) := hc 0 _ rfl
      have f0 := hfz (j * 4)
      have c1 : wr.cell? ⟨b, j * 4 + 1, none⟩ = some (.slice q_1.p q_1.l.length q_1.c) := hc 1 _ rfl
      have f1 := hfz (j * 4 + 1)
      have c2 : wr.cell? ⟨b, j * 4 + 2, none⟩ = some (.slice q_2.p q_2.l.length q_2.c) := hc 2 _ rfl
      have f2 := hfz (j * 4 + 2)
      have c3 : wr.cell? ⟨b, j * 4 + 3, none⟩ = some (.int .i64 q_3) := hc 3 _ rfl
      have f3 := hfz (j * 4 + 3)
      have hbd : y + ((1 + (yI.cnt q_1 + (yCycJobS.cnt q_2 + (1))) : Nat) : Int) ≤ 1000000000000000 := hB
      have HSC : Hid (cntL yCycPort (l.take (j + 1)) = cntL yCycPort (l.take j) + (1 + (yI.cnt q_1 + (yCycJobS.cnt q_2 + (1))))) := Hid.intro hstep
      have HSTP := Hid.intro hSTP
      clear hc hB hstep hSTP hfz
      have hqb : ∀ x ∈ [] ++ (yI.foot q_1 ++ (yCycJobS.foot q_2 ++ ([]))), x ≠ b := hqb
      have m0 : ([] ++ (yI.foot q_1 ++ (yCycJobS.foot q_2 ++ ([])))).Nodup := hqn
      have hnd : (yI.foot q_1).Nodup ∧ (yCycJobS.foot q_2).Nodup ∧ ∀ x ∈ yCycJobS.foot q_2, x ∉ yI.foot q_1 := by
        have m1 := m0
        simp only [List.nil_append, List.append_nil] at m1
        exact nd2 m1
      have HQ := Hid.intro (And.intro hqo (And.intro hqb hnd))
      clear hqo hqb m0 hqn hnd
      have K2 := Hid.intro c2
      have K3 := Hid.intro c3
      have ho0 : Hid (yI.ow (putC wr b [(j * 4, .int .i64 (y))]) q_1) := Hid.intro (yI_law.ow_of HQ.out.1.2.1 (fun x hx => putC_ne _ _ _ (HQ.out.2.1 x (List.mem_append.2 (.inr (List.mem_append.2 (.inl (hx))))))))
      have hbb0 : (y + 1) + ((yI.vcnt q_1 : Nat) : Int) ≤ 1000000000000000 ∧ 0 ≤ (y + 1) := by have g0 : ((yI.vcnt q_1 : Nat) : Int) = ((yI.cnt q_1 : Nat) : Int) := rfl; have g1 : ((yCycJobS.vcnt q_2 : Nat) : Int) = ((yCycJobS.cnt q_2 : Nat) : Int) := rfl; omega
      have HBB0 := Hid.intro hbb0
      clear hbb0
      go_wp2_with fail
      refine (yI_mark q_1 _ (putC wr b [(j * 4, .int .i64 (y))]) ho0.out HQ.out.2.2.1 HBB0.out.2 HBB0.out.1).mono ?_
      rintro e w1 ⟨rfl, hk, x1, hv0, hx0, hf0, hn0, hw0, hm0⟩
      have HX0 := Hid.intro (And.intro hx0 (And.intro hf0 (And.intro hn0 (And.intro hw0 hm0))))
      clear hv0 hx0 hf0 hn0 hw0 hm0
      have HB0 : Hid (w1.heap[b]? = (putC wr b [(j * 4, .int .i64 (y))]).heap[b]?) := Hid.intro ((hk.block b (by rw [putC_size]; exact hwb) (fun hd => HQ.out.2.1 b (List.mem_append.2 (.inr (List.mem_append.2 (.inl (hd))))) rfl)))
      have HK0 : Hid (Kept (fun x => x = b ∨ x ∈ yI.foot q_1) wr w1) := Hid.intro (((putC_kept (b := b) _ wr).mono (fun x e => .inl e)).trans (hk.mono (fun x e => .inr e)))
      replace c2 : w1.cell? ⟨b, j * 4 + 2, none⟩ = some (.slice q_2.p q_2.l.length q_2.c) := (World.cell?_of_block (w := putC wr b [(j * 4, .int .i64 (y))]) (a := ⟨b, j * 4 + 2, none⟩) HB0.out).trans ((putC_cell _ _ (by simp)).trans c2)
      replace f2 : w1.frozen? ⟨b, j * 4 + 2, none⟩ = false := (World.frozen?_of_block (w := putC wr b [(j * 4, .int .i64 (y))]) (a := ⟨b, j * 4 + 2, none⟩) HB0.out).trans (putC_frz hcur _)
      replace c3 : w1.cell? ⟨b, j * 4 + 3, none⟩ = some (.int .i64 q_3) := (World.cell?_of_block (w := putC wr b [(j * 4, .int .i64 (y))]) (a := ⟨b, j * 4 + 3, none⟩) HB0.out).trans ((putC_cell _ _ (by simp)).trans c3)
      replace f3 : w1.frozen? ⟨b, j * 4 + 3, none⟩ = false := (World.frozen?_of_block (w := putC wr b [(j * 4, .int .i64 (y))]) (a := ⟨b, j * 4 + 3, none⟩) HB0.out).trans (putC_frz hcur _)
      clear hk ho0 HBB0
      have ho1 : Hid (yCycJobS.ow (putC w1 b []) q_2) := Hid.intro (yCycJobS_law.ow_of HQ.out.1.2.2.1 (fun x hx => (putC_ne _ _ _ (HQ.out.2.1 x (List.mem_append.2 (.inr (List.mem_append.2 (.inr (List.mem_append.2 (.inl (hx))))))))).trans (HK0.out.block x (yCycJobS_law.ow_lt HQ.out.1.2.2.1 x hx) (fun hd => hd.elim (fun e => HQ.out.2.1 x (List.mem_append.2 (.inr (List.mem_append.2 (.inr (List.mem_append.2 (.inl (hx))))))) e) (fun hd => HQ.out.2.2.2.2 x hx hd)))))
      have hcb1 : (putC w1 b []).heap[b]? = (putC wr b [(j * 4, .int .i64 (y))]).heap[b]? := (putC_cong _ HB0.out).trans (by rw [putC_app]; rfl)
      have HCB1 := Hid.intro hcb1
      clear hcb1
      have hbb1 : (y + 1 + ((yI.vcnt q_1 : Nat) : Int)) + ((yCycJobS.vcnt q_2 : Nat) : Int) ≤ 1000000000000000 ∧ 0 ≤ (y + 1 + ((yI.vcnt q_1 : Nat) : Int)) := by have g0 : ((yI.vcnt q_1 : Nat) : Int) = ((yI.cnt q_1 : Nat) : Int) := rfl; have g1 : ((yCycJobS.vcnt q_2 : Nat) : Int) = ((yCycJobS.cnt q_2 : Nat) : Int) := rfl; omega
      have HBB1 := Hid.intro hbb1
      clear hbb1
      go_wp2_with fail
      refine (yCycJobS_mark q_2 _ (putC w1 b []) ho1.out HQ.out.2.2.2.1 HBB1.out.2 HBB1.out.1).mono ?_
      rintro e w2 ⟨rfl, hk, x2, hv1, hx1, hf1, hn1, hw1, hm1⟩
      have HX1 := Hid.intro (And.intro hx1 (And.intro hf1 (And.intro hn1 (And.intro hw1 hm1))))
      clear hv1 hx1 hf1 hn1 hw1 hm1
      have HB1 : Hid (w2.heap[b]? = (putC wr b [(j * 4, .int .i64 (y))]).heap[b]?) := Hid.intro ((hk.block b (by rw [putC_size]; exact Nat.lt_of_lt_of_le hwb HK0.out.size) (fun hd => HQ.out.2.1 b (List.mem_append.2 (.inr (List.mem_append.2 (.inr (List.mem_append.2 (.inl (hd))))))) rfl)).trans HCB1.out)
      have HK1 : Hid (Kept (fun x => (x = b ∨ x ∈ yI.foot q_1) ∨ x ∈ yCycJobS.foot q_2) wr w2) := Hid.intro (((HK0.out.trans ((putC_kept (b := b) _ w1).mono (fun x e => .inl e))).mono (fun x e => .inl e)).trans (hk.mono (fun x e => .inr e)))
      have HW0 : Hid (yI.ow w2 x1) := Hid.intro (yI_law.ow_of HX0.out.2.2.2.1 (fun x hx => (hk.block x (by rw [putC_size]; exact yI_law.ow_lt HX0.out.2.2.2.1 x hx) (fun hd => HQ.out.2.2.2.2 x hd (by rw [← HX0.out.2.1]; exact hx))).trans (putC_ne _ _ _ (HQ.out.2.1 x (by have hx := hx; rw [HX0.out.2.1] at hx; exact List.mem_append.2 (.inr (List.mem_append.2 (.inl (hx)))))))))
      replace c3 : w2.cell? ⟨b, j * 4 + 3, none⟩ = some (.int .i64 q_3) := (World.cell?_of_block (w := putC wr b [(j * 4, .int .i64 (y))]) (a := ⟨b, j * 4 + 3, none⟩) HB1.out).trans ((putC_cell _ _ (by simp)).trans K3.out)
      replace f3 : w2.frozen? ⟨b, j * 4 + 3, none⟩ = false := (World.frozen?_of_block (w := putC wr b [(j * 4, .int .i64 (y))]) (a := ⟨b, j * 4 + 3, none⟩) HB1.out).trans (putC_frz hcur _)
      clear hk ho1 HCB1 HBB1
      have HEND := Hid.intro (HSTP.out ((y), x1, x2, (y + 1 + ((yI.vcnt q_1 : Nat) : Int) + ((yCycJobS.vcnt q_2 : Nat) : Int))) [(j * 4, .int .i64 (y)), (j * 4 + 3, .int .i64 (y + 1 + ((yI.vcnt q_1 : Nat) : Int) + ((yCycJobS.vcnt q_2 : Nat) : Int)))] (putC w2 b [(j * 4 + 3, .int .i64 (y + 1 + ((yI.vcnt q_1 : Nat) : Int) + ((yCycJobS.vcnt q_2 : Nat) : Int)))]) (by show [] ++ (yI.foot x1 ++ (yCycJobS.foot x2 ++ ([]))) = [] ++ (yI.foot q_1 ++ (yCycJobS.foot q_2 ++ ([]))); rw [HX0.out.2.1, HX1.out.2.1]) (by show 1 + (yI.cnt x1 + (yCycJobS.cnt x2 + (1))) = 1 + (yI.cnt q_1 + (yCycJobS.cnt q_2 + (1))); rw [(show yI.cnt x1 = yI.cnt q_1 from HX0.out.2.2.1), (show yCycJobS.cnt x2 = yCycJobS.cnt q_2 from HX1.out.2.2.1)]) ⟨(show (y) = y from by omega), (show yI.mkd x1 (y + ((1 : Nat) : Int)) from cast (congrArg (yI.vmkd x1) (by omega)) HX0.out.2.2.2.2), (show yCycJobS.mkd x2 (y + ((1 : Nat) : Int) + ((yI.cnt x1 : Nat) : Int)) from cast (congrArg (yCycJobS.vmkd x2) (by have g0 : ((yI.cnt x1 : Nat) : Int) = ((yI.vcnt q_1 : Nat) : Int) := (by rw [show yI.cnt x1 = yI.vcnt q_1 from HX0.out.2.2.1]); omega)) HX1.out.2.2.2.2), (show (y + 1 + ((yI.vcnt q_1 : Nat) : Int) + ((yCycJobS.vcnt q_2 : Nat) : Int)) = y + ((1 : Nat) : Int) + ((yI.cnt x1 : Nat) : Int) + ((yCycJobS.cnt x2 : Nat) : Int) from by have g0 : ((yI.cnt x1 : Nat) : Int) = ((yI.vcnt q_1 : Nat) : Int) := (by rw [show yI.cnt x1 = yI.vcnt q_1 from HX0.out.2.2.1]); have g1 : ((yCycJobS.cnt x2 : Nat) : Int) = ((yCycJobS.vcnt q_2 : Nat) : Int) := (by rw [show yCycJobS.cnt x2 = yCycJobS.vcnt q_2 from HX1.out.2.2.1]); omega)⟩ ⟨trivial, (yI_law.ow_of HW0.out (fun x hx => putC_ne _ _ _ (HQ.out.2.1 x (by have hx := hx; rw [HX0.out.2.1] at hx; exact List.mem_append.2 (.inr (List.mem_append.2 (.inl (hx)))))))), (yCycJobS_law.ow_of HX1.out.2.2.2.1 (fun x hx => putC_ne _ _ _ (HQ.out.2.1 x (by have hx := hx; rw [HX1.out.2.1] at hx; exact List.mem_append.2 (.inr (List.mem_append.2 (.inr (List.mem_append.2 (.inl (hx)))))))))), trivial⟩ ((putC_cong _ HB1.out).trans (by rw [putC_app]; rfl)) ((HK1.out.trans ((putC_kept (b := b) _ w2).mono (fun x e => .inl (.inl e)))).mono (by
          intro x
          rintro ((e | h) | h)
          · exact .inl e
          · exact .inr (show x ∈ [] ++ (yI.foot q_1 ++ (yCycJobS.foot q_2 ++ ([]))) from List.mem_append.2 (.inr (List.mem_append.2 (.inl (h)))))
          · exact .inr (show x ∈ [] ++ (yI.foot q_1 ++ (yCycJobS.foot q_2 ++ ([]))) from List.mem_append.2 (.inr (List.mem_append.2 (.inr (List.mem_append.2 (.inl (h)))))))))
        (by
          intro x hx
          show j * 4 ≤ x.1 ∧ x.1 < j * 4 + 4 ∧ (yCycPort.cells ((y), x1, x2, (y + 1 + ((yI.vcnt q_1 : Nat) : Int) + ((yCycJobS.vcnt q_2 : Nat) : Int))))[x.1 - j * 4]? = some x.2
          simp only [List.mem_cons, List.not_mem_nil, or_false] at hx
          rcases hx with rfl | rfl
          · exact ⟨by simp only; omega, by simp only; omega, by simp only [Nat.sub_self]; rfl⟩
          · exact ⟨by simp only; omega, by simp only; omega, by simp only [Nat.add_sub_cancel_left]; rfl⟩)
        (by
          intro i hi
          have hi : i < 4 := hi
          have hd : i = 0 ∨ i = 1 ∨ i = 2 ∨ i = 3 := by omega
          rcases hd with rfl | rfl | rfl | rfl
          · exact .inl ⟨(j * 4, .int .i64 (y)), by simp, rfl⟩
          · exact .inr (congrArg some (List.cons.inj (show [Value.slice x1.p x1.l.length x1.c] = [Value.slice q_1.p q_1.l.length q_1.c] from HX0.out.1)).1)
          · exact .inr (congrArg some (List.cons.inj (show [Value.slice x2.p x2.l.length x2.c] = [Value.slice q_2.p q_2.l.length q_2.c] from HX1.out.1)).1)
          · exact .inl ⟨(j * 4 + 3, .int .i64 (y + 1 + ((yI.vcnt q_1 : Nat) : Int) + ((yCycJobS.vcnt q_2 : Nat) : Int))), by simp, rfl⟩))
      have HY2 : Hid (y + 1 + ((yI.vcnt q_1 : Nat) : Int) + ((yCycJobS.vcnt q_2 : Nat) : Int) + 1 = k0 + ((cntL yCycPort (l.take (j + 1)) : Nat) : Int)) := Hid.intro (by have h1 := HSC.out; have h2 := HY.out; have g1 : ((yI.vcnt q_1 : Nat) : Int) = ((yI.cnt q_1 : Nat) : Int) := rfl; have g2 : ((yCycJobS.vcnt q_2 : Nat) : Int) = ((yCycJobS.cnt q_2 : Nat) : Int) := rfl; omega)
      have hYN : (y + 1 + ((yI.vcnt q_1 : Nat) : Int) + ((yCycJobS.vcnt q_2 : Nat) : Int) + 1) ≤ 1000000000000000 ∧ 0 ≤ (y + 1 + ((yI.vcnt q_1 : Nat) : Int) + ((yCycJobS.vcnt q_2 : Nat) : Int) + 1) := by have g1 : ((yI.vcnt q_1 : Nat) : Int) = ((yI.cnt q_1 : Nat) : Int) := rfl; have g2 : ((yCycJobS.vcnt q_2 : Nat) : Int) = ((yCycJobS.cnt q_2 : Nat) : Int) := rfl; omega
      have hYN1 := hYN.1
      have hYN2 := hYN.2
      clear hYN
      clear HSTP HSC HY HQ HQE HYS hcur HX0 HB0 HK0 HX1 HB1 HK1 HW0
      go_wp2
      go_roundw
      case rel => exact ⟨j + 1, _, ys.set j ((y), x1, x2, (y + 1 + ((yI.vcnt q_1 : Nat) : Int) + ((yCycJobS.vcnt q_2 : Nat) : Int))), by omega, by go_num, rfl, by omega, HY2, HEND⟩
      case measure => simp [intOf]; omega
    · have hk3 : ¬ (j : Int) < (l.length : Int) := by omega
      have HE : Hid (y = k0 + ((cntL yCycPort l : Nat) : Int)) := Hid.intro (by have := HY.out; rwa [show j = l.length by omega, List.take_length] at this)
      clear HY
      go_wp2
      go_ret
      exact ⟨congrArg (fun z => Ending.returned (Value.int .i64 z)) HE.out, HM.out.kept, HM.out.done yCycPort_law (by omega) hl1 hl2⟩

set_option maxRecDepth 100000 in
set_option maxHeartbeats 2000000 in
theorem yCycPortS_held : HeldC yCycPortS 26 := by
  rintro ⟨p, c, l⟩ k0 w hr hm h0 h1
  have hl1 : l.length ≤ c := hr.1
  have hl2 : c ≤ 9223372036854775807 := hr.2.1
  have HC : Hid (k0 + ((cntL yCycPort l : Nat) : Int) ≤ 1000000000000000) := Hid.intro h1
  have HM : Hid (mkdL yCycPort l k0) := Hid.intro hm
  have HR := Hid.intro hr
  clear hr hm h1
  show Calls Try.prog 26 #[.slice p l.length c, .int .i64 k0] w fun e w' => e = .returned (.int .i64 (k0 + ((cntL yCycPort l : Nat) : Int))) ∧ Below w.heap.size w w'
  go_enter Try.func26, Try.ntmps26
  go_wp2
  go_loopw [5, 1] (fun i kk wr => ∃ (j : Nat) (y : Int), j ≤ l.length ∧ i = .int .i64 j ∧ kk = .int .i64 y ∧ 0 ≤ y ∧ Hid (y = k0 + ((cntL yCycPort (l.take j) : Nat) : Int)) ∧ Below w.heap.size w wr) (fun i _ _ => l.length - (intOf i).toNat)
  case atStart => exact ⟨0, k0, Nat.zero_le _, rfl, rfl, h0, Hid.intro (by simp [cntL]), Below.refl _ _⟩
  case round =>
    obtain ⟨j, y, hj, rfl, rfl, hy0, HY, hbl⟩ := hrel
    by_cases hlt : j < l.length
    · have hp := yCycPortS_law.rd_blw HR.out hbl
      have hq := hp.2.2.2 _ (List.getElem_mem hlt)
      have hj0 : (0 : Int) ≤ (j : Int) := by omega
      have hj1 : (j : Int) < (l.length : Int) := by omega
      have hst := cntL_take yCycPort hlt
      have hpt := cntL_part yCycPort l (j + 1)
      have hm := mkdL_at HM.out hlt
      rw [← HY.out] at hm
      have hbd : y + ((yCycPort.cnt l[j] : Nat) : Int) ≤ 1000000000000000 := by have h1 := HC.out; have h2 := HY.out; omega
      have hc : ∃ b off, p = some ⟨b, off, none⟩ ∧ b < wr.heap.size ∧ ∀ (i : Nat) (v : Value), (yCycPort.cells l[j])[i]? = some v → wr.cell? ⟨b, off + j * 4 + i, none⟩ = some v := by
        rcases hp.2.2.1 with h0 | ⟨b, off, e, hb, hc⟩
        · have h0 : l = [] := h0
          subst h0; simp at hlt
        · exact ⟨b, off, e, hb, fun i v hv => hc j hlt i v hv⟩
      obtain ⟨b, off, rfl, hb, hc⟩ := hc
      clear hp hpt
      generalize l[j] = q at hq hst hc hm hbd
      obtain ⟨q_0, q_1, q_2, q_3⟩ := q
      have hbd : y + ((1 + (yI.cnt q_1 + (yCycJobS.cnt q_2 + (1))) : Nat) : Int) ≤ 1000000000000000 := hbd
      have HST : Hid (cntL yCycPort (l.take (j + 1)) = cntL yCycPort (l.take j) + (1 + (yI.cnt q_1 + (yCycJobS.cnt q_2 + (1))))) := Hid.intro hst
      have c0 : wr.cell? ⟨b, off + j * 4, none⟩ = some (.int .i64 q_0) := hc 0 _ rfl
      have c1 : wr.cell? ⟨b, off + j * 4 + 1, none⟩ = some (.slice q_1.p q_1.l.length q_1.c) := hc 1 _ rfl
      have c2 : wr.cell? ⟨b, off + j * 4 + 2, none⟩ = some (.slice q_2.p q_2.l.length q_2.c) := hc 2 _ rfl
      have c3 : wr.cell? ⟨b, off + j * 4 + 3, none⟩ = some (.int .i64 q_3) := hc 3 _ rfl
      have e0 : q_0 = y := (show q_0 = y from hm.1).trans (by have g0 : ((yI.vcnt q_1 : Nat) : Int) = ((yI.cnt q_1 : Nat) : Int) := rfl; have g1 : ((yCycJobS.vcnt q_2 : Nat) : Int) = ((yCycJobS.cnt q_2 : Nat) : Int) := rfl; omega)
      rw [e0] at c0
      have e3 : q_3 = y + 1 + ((yI.vcnt q_1 : Nat) : Int) + ((yCycJobS.vcnt q_2 : Nat) : Int) := (show q_3 = y + ((1 : Nat) : Int) + ((yI.cnt q_1 : Nat) : Int) + ((yCycJobS.cnt q_2 : Nat) : Int) from hm.2.2.2).trans (by have g0 : ((yI.vcnt q_1 : Nat) : Int) = ((yI.cnt q_1 : Nat) : Int) := rfl; have g1 : ((yCycJobS.vcnt q_2 : Nat) : Int) = ((yCycJobS.cnt q_2 : Nat) : Int) := rfl; omega)
      rw [e3] at c3
      have HQ := Hid.intro (And.intro hq hm)
      clear hq hm hc hst e0 e3
      have hmk0 : yI.vmkd q_1 (y + 1) := cast (congrArg (yI.vmkd q_1) (by have g0 : ((yI.vcnt q_1 : Nat) : Int) = ((yI.cnt q_1 : Nat) : Int) := rfl; have g1 : ((yCycJobS.vcnt q_2 : Nat) : Int) = ((yCycJobS.cnt q_2 : Nat) : Int) := rfl; omega)) (show yI.mkd q_1 (y + ((1 : Nat) : Int)) from HQ.out.2.2.1)
      have hbb0 : (y + 1) + ((yI.vcnt q_1 : Nat) : Int) ≤ 1000000000000000 ∧ 0 ≤ (y + 1) := by have g0 : ((yI.vcnt q_1 : Nat) : Int) = ((yI.cnt q_1 : Nat) : Int) := rfl; have g1 : ((yCycJobS.vcnt q_2 : Nat) : Int) = ((yCycJobS.cnt q_2 : Nat) : Int) := rfl; omega
      have HC0 := Hid.intro (And.intro hmk0 hbb0)
      clear hmk0
      go_wp2_with fail
      refine (yI_held q_1 _ _ (yI_law.rd_blw HQ.out.1.2.1 (Below.refl _ wr)) HC0.out.1 HC0.out.2.2 HC0.out.2.1).mono ?_
      rintro e w1 ⟨rfl, hb1⟩
      have bw0 : Below wr.heap.size wr w1 := hb1
      have hI0 : ¬ (y + 1 + ((yI.vcnt q_1 : Nat) : Int) < 0) := by have := HC0.out.2; omega
      replace c2 : w1.cell? ⟨b, off + j * 4 + 2, none⟩ = some (.slice q_2.p q_2.l.length q_2.c) := (hb1.cell (p := ⟨b, off + j * 4 + 2, none⟩) hb).trans c2
      replace c3 : w1.cell? ⟨b, off + j * 4 + 3, none⟩ = some (.int .i64 (y + 1 + ((yI.vcnt q_1 : Nat) : Int) + ((yCycJobS.vcnt q_2 : Nat) : Int))) := (hb1.cell (p := ⟨b, off + j * 4 + 3, none⟩) hb).trans c3
      clear hb1 HC0
      have hmk1 : yCycJobS.vmkd q_2 (y + 1 + ((yI.vcnt q_1 : Nat) : Int)) := cast (congrArg (yCycJobS.vmkd q_2) (by have g0 : ((yI.vcnt q_1 : Nat) : Int) = ((yI.cnt q_1 : Nat) : Int) := rfl; have g1 : ((yCycJobS.vcnt q_2 : Nat) : Int) = ((yCycJobS.cnt q_2 : Nat) : Int) := rfl; omega)) (show yCycJobS.mkd q_2 (y + ((1 : Nat) : Int) + ((yI.cnt q_1 : Nat) : Int)) from HQ.out.2.2.2.1)
      have hbb1 : (y + 1 + ((yI.vcnt q_1 : Nat) : Int)) + ((yCycJobS.vcnt q_2 : Nat) : Int) ≤ 1000000000000000 ∧ 0 ≤ (y + 1 + ((yI.vcnt q_1 : Nat) : Int)) := by have g0 : ((yI.vcnt q_1 : Nat) : Int) = ((yI.cnt q_1 : Nat) : Int) := rfl; have g1 : ((yCycJobS.vcnt q_2 : Nat) : Int) = ((yCycJobS.cnt q_2 : Nat) : Int) := rfl; omega
      have HC1 := Hid.intro (And.intro hmk1 hbb1)
      clear hmk1
      go_wp2_with fail
      refine (yCycJobS_held q_2 _ _ (yCycJobS_law.rd_blw HQ.out.1.2.2.1 bw0) HC1.out.1 HC1.out.2.2 HC1.out.2.1).mono ?_
      rintro e w2 ⟨rfl, hb1⟩
      have bw1 : Below wr.heap.size wr w2 := bw0.trans (hb1.mono bw0.size)
      have hI1 : ¬ (y + 1 + ((yI.vcnt q_1 : Nat) : Int) + ((yCycJobS.vcnt q_2 : Nat) : Int) < 0) := by have := HC1.out.2; omega
      replace c3 : w2.cell? ⟨b, off + j * 4 + 3, none⟩ = some (.int .i64 (y + 1 + ((yI.vcnt q_1 : Nat) : Int) + ((yCycJobS.vcnt q_2 : Nat) : Int))) := (hb1.cell (p := ⟨b, off + j * 4 + 3, none⟩) (Nat.lt_of_lt_of_le hb bw0.size)).trans c3
      clear hb1 HC1
      have HY2 : Hid (y + 1 + ((yI.vcnt q_1 : Nat) : Int) + ((yCycJobS.vcnt q_2 : Nat) : Int) + 1 = k0 + ((cntL yCycPort (l.take (j + 1)) : Nat) : Int)) := Hid.intro (by have h1 := HST.out; have h2 := HY.out; have g1 : ((yI.vcnt q_1 : Nat) : Int) = ((yI.cnt q_1 : Nat) : Int) := rfl; have g2 : ((yCycJobS.vcnt q_2 : Nat) : Int) = ((yCycJobS.cnt q_2 : Nat) : Int) := rfl; omega)
      have hYN : (y + 1 + ((yI.vcnt q_1 : Nat) : Int) + ((yCycJobS.vcnt q_2 : Nat) : Int) + 1) ≤ 1000000000000000 ∧ 0 ≤ (y + 1 + ((yI.vcnt q_1 : Nat) : Int) + ((yCycJobS.vcnt q_2 : Nat) : Int) + 1) := by have g1 : ((yI.vcnt q_1 : Nat) : Int) = ((yI.cnt q_1 : Nat) : Int) := rfl; have g2 : ((yCycJobS.vcnt q_2 : Nat) : Int) = ((yCycJobS.cnt q_2 : Nat) : Int) := rfl; omega
      have hYN1 := hYN.1
      have hYN2 := hYN.2
      clear hYN
      have HBL := Hid.intro (hbl.trans (bw1.mono hbl.size))
      clear HQ HST HY
      go_wp2
      go_roundw
      case rel => exact ⟨j + 1, _, by omega, by go_num, rfl, by omega, HY2, HBL.out⟩
      case measure => simp [intOf]; omega
    · have hk3 : ¬ (j : Int) < (l.length : Int) := by omega
      have HE : Hid (y = k0 + ((cntL yCycPort l : Nat) : Int)) := Hid.intro (by have := HY.out; rwa [show j = l.length by omega, List.take_length] at this)
      clear HY
      go_wp2
      go_ret
      exact ⟨congrArg (fun z => Ending.returned (Value.int .i64 z)) HE.out, hbl⟩

end Go.Proofs.Ytpjfkimgienkbab
