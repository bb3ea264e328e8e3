/-
  MapRange: the laws' functions, by contract of kinds.
-/
import Derived.Test.YtgjlkmhbaimjpaaKndI
import Derived.Test.YtgjlkmhbaimjpaaKndLM
import Derived.Test.YtgjlkmhbaimjpaaOpsXM
namespace Go.Proofs.Ytgjlkmhbaimjpaa
open Go.RowKit
set_option linter.unusedSimpArgs false
set_option linter.unusedVariables false

def yMapRange : Knd (Int × Int × Int × Bool) (Int × Int × Int × Bool) := gRec (gPair gInt (gPair gInt (gPair gInt gBool)))
theorem yMapRange_law : KLaw yMapRange := gRec_law (gPair_law gInt_law (gPair_law gInt_law (gPair_law gInt_law gBool_law)))
theorem yMapRange_val (f : (Int × Int × Int × Bool)) : yMapRange.val f = .agg #[.int .i64 f.1, .int .i64 f.2.1, .int .i64 f.2.2.1, .bool f.2.2.2] := rfl
theorem yMapRange_cells (f : (Int × Int × Int × Bool)) : yMapRange.cells f = [.int .i64 f.1, .int .i64 f.2.1, .int .i64 f.2.2.1, .bool f.2.2.2] := rfl

set_option maxRecDepth 100000 in
set_option maxHeartbeats 2000000 in
theorem yMapRange_eq : EqC yMapRange 90 := by
  rintro ⟨f_0, f_1, f_2, f_3⟩ ⟨g_0, g_1, g_2, g_3⟩ w hr hr' hp
  have hp' : ((f_0, f_1, f_2, f_3) : (Int × Int × Int × Bool)) = (g_0, g_1, g_2, g_3) := hp
  clear hp
  simp only [Prod.mk.injEq] at hp'
  obtain ⟨rfl, rfl, rfl, rfl⟩ := hp'
  have HR := Hid.intro hr
  have HQ := Hid.intro hr'
  clear hr hr'
  have hbl : ∀ o o', Below w.heap.size w ((w.alloc o).alloc o') := fun o o' => ((Below.refl _ w).alloc (Nat.le_refl _) o).alloc (by simp) o'
  show Calls Try.prog 90 #[.agg #[.int .i64 f_0, .int .i64 f_1, .int .i64 f_2, .bool f_3], .agg #[.int .i64 f_0, .int .i64 f_1, .int .i64 f_2, .bool f_3]] w _
  go_enter Try.func90, Try.ntmps90
  go_wp2
  go_ret
  exact ⟨rfl, hbl _ _⟩

set_option maxRecDepth 100000 in
set_option maxHeartbeats 2000000 in
theorem yMapRange_to : ToC yMapRange 85 := by
  rintro ⟨f_0, f_1, f_2, f_3⟩ w hr hs
  have HR := Hid.intro hr
  clear hr
  have hbl : ∀ o o' o'', Below w.heap.size w (((w.alloc o).alloc o').alloc o'') := fun o o' o'' => (((Below.refl _ w).alloc (Nat.le_refl _) o).alloc (by simp) o').alloc (by simp <;> omega) o''
  clear hs
  show Calls Try.prog 85 #[.agg #[.int .i64 f_0, .int .i64 f_1, .int .i64 f_2, .bool f_3]] w _
  go_enter Try.func85, Try.ntmps85
  go_wp2
  refine bodyPost_ret (v := .agg #[.int .i64 f_0, .int .i64 f_1, .int .i64 f_2, .bool f_3]) (by simp [results, Try.results85, go_sem]) rfl ⟨(f_0, f_1, f_2, f_3), rfl, rfl, rfl, Fresh.recd (Fresh.pair (Fresh.int _ _ _) (Nat.le_refl _) (lt_int _ _) (Fresh.pair (Fresh.int _ _ _) (Nat.le_refl _) (lt_int _ _) (Fresh.pair (Fresh.int _ _ _) (Nat.le_refl _) (lt_int _ _) (Fresh.bool _ _ _)))), ?_⟩
  first | exact hbl _ _ _ | (refine ⟨?_, ?_, ?_, ?_, ?_⟩ <;> simp)

def yMapRangeS : Knd (Lst (Int × Int × Int × Bool)) (List (Int × Int × Int × Bool)) := gLst 120 yMapRange
theorem yMapRangeS_law : KLaw yMapRangeS := gLst_law yMapRange_law (by decide)

set_option maxRecDepth 100000 in
set_option maxHeartbeats 2000000 in
theorem yMapRangeS_sz : SzC yMapRangeS 35 := by
  rintro ⟨p, c, l⟩ left w hr h0 h1
  have hl1 : l.length ≤ c := hr.1
  have hl2 : c ≤ 9223372036854775807 := hr.2.1
  have HS : Hid ((yMapRangeS.size ⟨p, c, l⟩ : Nat) = l.length) := Hid.intro (by show l.length + (l.map (fun _ => 0)).sum = _; rw [sum_zero]; rfl)
  clear hr
  show Calls Try.prog 35 #[.slice p l.length c, .int .i64 left] w _
  by_cases hn : left - (l.length : Int) < 0
  · go_enter Try.func35, Try.ntmps35
    go_wp2
    go_ret
    exact ⟨⟨_, rfl, .inl rfl⟩, Below.refl _ _⟩
  · go_enter Try.func35, Try.ntmps35
    go_wp2
    go_ret
    exact ⟨⟨_, rfl, .inr ⟨by omega, by rw [HS.out]⟩⟩, Below.refl _ _⟩

set_option maxRecDepth 100000 in
set_option maxHeartbeats 2000000 in
theorem yMapRangeS_eq : EqC yMapRangeS 48 := by
  rintro ⟨p, c, l⟩ ⟨p', c', m⟩ w hr hr' hpl
  have hl1 : l.length ≤ c := hr.1
  have hl2 : c ≤ 9223372036854775807 := hr.2.1
  have hl3 : m.length ≤ c' := hr'.1
  have hl4 : c' ≤ 9223372036854775807 := hr'.2.1
  have hpl' : l.map yMapRange.pl = m.map yMapRange.pl := hpl
  have hlm : l.length = m.length := by have := congrArg List.length hpl'; simpa using this
  have HP := Hid.intro hr
  have HQ := Hid.intro hr'
  have HE := Hid.intro hpl'
  clear hr hr' hpl hpl'
  obtain ⟨n, hn⟩ : ∃ n, n = l.length := ⟨_, rfl⟩
  have HN := Hid.intro (And.intro hn (hn.trans hlm))
  show Calls Try.prog 48 #[.slice p l.length c, .slice p' m.length c'] w _
  rw [← hlm, ← hn]
  have hn1 : n ≤ 9223372036854775807 := by omega
  clear hn hlm hl1 hl2 hl3 hl4
  go_enter Try.func48, Try.ntmps48
  go_wp2
  go_loopw [5] (fun i wr => ∃ k : Nat, k ≤ n ∧ i = .int .i64 k ∧ Below w.heap.size w wr) (fun i _ => n - (intOf i).toNat)
  case atStart => exact ⟨0, Nat.zero_le _, rfl, Below.refl _ _⟩
  case round =>
    obtain ⟨k, hk, rfl, hbl⟩ := hrel
    by_cases hlt : k < n
    · have hk0 : (0 : Int) ≤ (k : Int) := by omega
      have hk1 : (k : Int) < (n : Int) := by omega
      have hp := yMapRangeS_law.rd_blw HP.out hbl
      have hq := yMapRangeS_law.rd_blw HQ.out hbl
      have ly : k < l.length := by have := HN.out.1; omega
      have lz : k < m.length := by have := HN.out.2; omega
      have hxx : yMapRange.pl l[k] = yMapRange.pl m[k] := by
        have e1 : (l.map yMapRange.pl)[k]? = (m.map yMapRange.pl)[k]? := by rw [HE.out]
        simpa [ly, lz] using e1
      have hpa := hp.2.2.2 _ (List.getElem_mem ly)
      have hqa := hq.2.2.2 _ (List.getElem_mem lz)
      have hcp : ∃ b off, p = some ⟨b, off, none⟩ ∧ b < wr.heap.size ∧ ∀ (j : Nat) (v : Value), (yMapRange.cells l[k])[j]? = some v → wr.cell? ⟨b, off + k * 4 + j, none⟩ = some v := by
        rcases hp.2.2.1 with h0 | ⟨b, off, e, hb, hc⟩
        · have h0 : l = [] := h0
          rw [h0] at ly; simp at ly
        · exact ⟨b, off, e, hb, fun j v hv => hc k ly j v hv⟩
      obtain ⟨b, off, rfl, hb, hcp⟩ := hcp
      have hcq : ∃ b off, p' = some ⟨b, off, none⟩ ∧ b < wr.heap.size ∧ ∀ (j : Nat) (v : Value), (yMapRange.cells m[k])[j]? = some v → wr.cell? ⟨b, off + k * 4 + j, none⟩ = some v := by
        rcases hq.2.2.1 with h0 | ⟨b, off, e, hb, hc⟩
        · have h0 : m = [] := h0
          rw [h0] at lz; simp at lz
        · exact ⟨b, off, e, hb, fun j v hv => hc k lz j v hv⟩
      obtain ⟨b', off', rfl, hb', hcq⟩ := hcq
      clear hp hq
      generalize l[k] = x at hxx hpa hcp
      generalize m[k] = z at hxx hqa hcq
      obtain ⟨x_0, x_1, x_2, x_3⟩ := x
      obtain ⟨z_0, z_1, z_2, z_3⟩ := z
      have u0 : wr.cell? ⟨b, off + k * 4, none⟩ = some (.int .i64 x_0) := hcp 0 _ rfl
      have u1 : wr.cell? ⟨b, off + k * 4 + 1, none⟩ = some (.int .i64 x_1) := hcp 1 _ rfl
      have u2 : wr.cell? ⟨b, off + k * 4 + 2, none⟩ = some (.int .i64 x_2) := hcp 2 _ rfl
      have u3 : wr.cell? ⟨b, off + k * 4 + 3, none⟩ = some (.bool x_3) := hcp 3 _ rfl
      have y0 : wr.cell? ⟨b', off' + k * 4, none⟩ = some (.int .i64 z_0) := hcq 0 _ rfl
      have y1 : wr.cell? ⟨b', off' + k * 4 + 1, none⟩ = some (.int .i64 z_1) := hcq 1 _ rfl
      have y2 : wr.cell? ⟨b', off' + k * 4 + 2, none⟩ = some (.int .i64 z_2) := hcq 2 _ rfl
      have y3 : wr.cell? ⟨b', off' + k * 4 + 3, none⟩ = some (.bool z_3) := hcq 3 _ rfl
      have HP1 := Hid.intro (And.intro hpa (And.intro u0 (And.intro u1 (And.intro u2 u3))))
      have HQ1 := Hid.intro (And.intro hqa (And.intro y0 (And.intro y1 (And.intro y2 y3))))
      have HXX := Hid.intro hxx
      clear hpa hqa hxx hcp hcq ly lz u0 u1 u2 u3 y0 y1 y2 y3
      go_wp2_with fail
      refine wp_region_typed (by kernel_rfl) Gr (fun _ W => Below wr.heap.size wr W)
        (tab [(17, kIs (.slice (some ⟨b, off, none⟩) n c)), (18, kIs (.int .i64 k)), (19, kIs (.pointer (some ⟨b, off + k * 4, none⟩))), (20, kIs (.agg #[.int .i64 x_0, .int .i64 x_1, .int .i64 x_2, .bool x_3])), (21, kIs (.slice (some ⟨b', off', none⟩) n c')), (22, kIs (.int .i64 k)), (23, kIs (.pointer (some ⟨b', off' + k * 4, none⟩))), (24, kIs (.agg #[.int .i64 z_0, .int .i64 z_1, .int .i64 z_2, .bool z_3])), (25, kIs (.bool true)), (26, kIs (.bool false))])
        [17, 18, 19, 20, 21, 22, 23, 24, 25, 26] (by kernel_rfl) (by kernel_rfl) ?_ ?_ ?_ ?_
      · refine tabR_stable ?_
        intro y hy
        simp only [List.mem_cons, List.not_mem_nil, or_false] at hy
        rcases hy with rfl | rfl | rfl | rfl | rfl | rfl | rfl | rfl | rfl | rfl
        all_goals intro w w' v hr hv
        all_goals exact hv
      · exact (Below.refl _ _).drew
      · refine ops_cons (gd rfl <| ty_move_out (.inl rfl) rfl (by kernel_rfl) rfl (fun _ _ h => h) Gr.refl) ?_
        refine ops_cons (gd rfl <| ty_move_out (.inl rfl) rfl (by kernel_rfl) rfl (fun _ _ h => h) Gr.refl) ?_
        refine ops_cons (gd rfl <| tx_pure rfl rfl (fun _ _ h => h) Gr.refl (fun _ ρ W hat hW => ?_)) ?_
        · have e1 : ρ (.tmp 17) = _ := hat.dep 17 (by kernel_rfl)
          have e2 : ρ (.tmp 18) = _ := hat.dep 18 (by kernel_rfl)
          simp only [execOp, e1, e2]; go_simp
        refine ops_cons (gd rfl <| tx_pure rfl rfl (fun _ _ h => h) Gr.refl (fun _ ρ W hat hW => ?_)) ?_
        · have e1 : ρ (.tmp 19) = _ := hat.dep 19 (by kernel_rfl)
          obtain ⟨u0, u1, u2, u3⟩ := HP1.out.2
          have v0 := (hW.cell (p := ⟨b, off + k * 4, none⟩) hb).trans u0
          have v1 := (hW.cell (p := ⟨b, off + k * 4 + 1, none⟩) hb).trans u1
          have v2 := (hW.cell (p := ⟨b, off + k * 4 + 2, none⟩) hb).trans u2
          have v3 := (hW.cell (p := ⟨b, off + k * 4 + 3, none⟩) hb).trans u3
          clear u0 u1 u2 u3
          simp only [execOp, e1]; go_simp
        refine ops_cons (gd rfl <| ty_move_out (.inl rfl) rfl (by kernel_rfl) rfl (fun _ _ h => h) Gr.refl) ?_
        refine ops_cons (gd rfl <| ty_move_out (.inl rfl) rfl (by kernel_rfl) rfl (fun _ _ h => h) Gr.refl) ?_
        refine ops_cons (gd rfl <| tx_pure rfl rfl (fun _ _ h => h) Gr.refl (fun _ ρ W hat hW => ?_)) ?_
        · have e1 : ρ (.tmp 21) = _ := hat.dep 21 (by kernel_rfl)
          have e2 : ρ (.tmp 22) = _ := hat.dep 22 (by kernel_rfl)
          simp only [execOp, e1, e2]; go_simp
        refine ops_cons (gd rfl <| tx_pure rfl rfl (fun _ _ h => h) Gr.refl (fun _ ρ W hat hW => ?_)) ?_
        · have e1 : ρ (.tmp 23) = _ := hat.dep 23 (by kernel_rfl)
          obtain ⟨y0, y1, y2, y3⟩ := HQ1.out.2
          have v0 := (hW.cell (p := ⟨b', off' + k * 4, none⟩) hb').trans y0
          have v1 := (hW.cell (p := ⟨b', off' + k * 4 + 1, none⟩) hb').trans y1
          have v2 := (hW.cell (p := ⟨b', off' + k * 4 + 2, none⟩) hb').trans y2
          have v3 := (hW.cell (p := ⟨b', off' + k * 4 + 3, none⟩) hb').trans y3
          clear y0 y1 y2 y3
          simp only [execOp, e1]; go_simp
        refine ops_cons (gd rfl <| tx_call rfl (fun _ ρ W _ hat hW => ?_)) ?_
        · have e1 : ρ (.tmp 20) = _ := hat.dep 20 (by kernel_rfl)
          have e2 : ρ (.tmp 24) = _ := hat.dep 24 (by kernel_rfl)
          have hf := hat.fn
          refine ⟨90, #[.agg #[.int .i64 x_0, .int .i64 x_1, .int .i64 x_2, .bool x_3], .agg #[.int .i64 z_0, .int .i64 z_1, .int .i64 z_2, .bool z_3]], by simp only [execOp]; go_simp, ?_⟩
          have hcl := yMapRange_eq (x_0, x_1, x_2, x_3) (z_0, z_1, z_2, z_3) W (yMapRange_law.rd_blw HP1.out.1 hW) (yMapRange_law.rd_blw HQ1.out.1 hW) HXX.out
          refine Calls.mono (show Calls Try.prog 90 #[.agg #[.int .i64 x_0, .int .i64 x_1, .int .i64 x_2, .bool x_3], .agg #[.int .i64 z_0, .int .i64 z_1, .int .i64 z_2, .bool z_3]] W _ from hcl) ?_
          rintro e W' ⟨rfl, hb⟩
          exact ⟨_, rfl, hW.trans (hb.mono hW.size), hb, rfl⟩
        refine ops_cons (gd rfl <| tx_pure rfl rfl (fun _ _ h => h) Gr.refl (fun _ ρ W hat hW => ?_)) ?_
        · have e1 : ρ (.tmp 25) = _ := hat.dep 25 (by kernel_rfl)
          simp only [execOp, e1]; go_simp
        exact ops_nil
      · intro f W hW hf
        have e26 : f 26 = .bool false := hf 26 (by simp)
        clear hf
        have hbW := hbl.trans (hW.mono hbl.size)
        simp only [fill, e26]
        go_simp
        go_wp2
        go_roundw
        case rel => exact ⟨k + 1, by omega, by go_num, hbW⟩
        case measure => simp [intOf]; omega
    · have hk3 : ¬ (k : Int) < (n : Int) := by omega
      go_wp2
      go_ret
      exact ⟨rfl, hbl⟩

theorem Try.infoMapRangeS : (Try.prog.info? 120).map (fun i => (i.zero, i.size, i.bytes)) = some (some (.agg #[.int .i64 0, .int .i64 0, .int .i64 0, .bool false]), 4, 32) := by kernel_rfl

set_option maxRecDepth 100000 in
set_option maxHeartbeats 2000000 in
theorem yMapRangeS_to : ToC yMapRangeS 41 := by
  rintro ⟨p, c, l⟩ w hr hs
  have hl1 : l.length ≤ c := hr.1
  have hl2 : c ≤ 9223372036854775807 := hr.2.1
  have hs' : l.length + (l.map yMapRange.size).sum ≤ 1048576 := hs
  have hl3 : l.length ≤ 1048576 := by omega
  have HR := Hid.intro hr
  have HSZ := Hid.intro hs'
  clear hr hs hs'
  obtain ⟨i0, hi, hz0, hz1, hz2⟩ := info_parts Try.infoMapRangeS
  have hmk : ∀ W : World, (Instr.makeSlice 29 (.int .i64 (l.length : Int)) (.int .i64 (l.length : Int))).run Try.prog W =
      .ok (.slice (some ⟨W.heap.size, 0, none⟩) l.length l.length) (W.alloc (.cells (madeCells (Value.cells (.agg #[.int .i64 0, .int .i64 0, .int .i64 0, .bool false])) (l.length * 4)) 120)) := fun W => by
    have := run_make (P := Try.prog) W 29 120 i0 _ Try.underlying29 hi hz0 .i64 .i64 (l.length : Int) (l.length : Int) (by omega) (by omega) (by rw [hz2]; omega) (by omega)
    rw [hz1] at this
    simpa using this
  have HM0 : Hid (MakeSt yMapRange 120 l w.heap.size (w.alloc (.cells (madeCells (Value.cells (.agg #[.int .i64 0, .int .i64 0, .int .i64 0, .bool false])) (l.length * 4)) 120)) 0 []) := Hid.intro (MakeSt.start yMapRange_law (by rfl))
  have hbl0 : Below w.heap.size w (w.alloc (.cells (madeCells (Value.cells (.agg #[.int .i64 0, .int .i64 0, .int .i64 0, .bool false])) (l.length * 4)) 120)) := (Below.refl _ w).alloc (Nat.le_refl _) _
  have hsz0 : w.heap.size < (w.alloc (.cells (madeCells (Value.cells (.agg #[.int .i64 0, .int .i64 0, .int .i64 0, .bool false])) (l.length * 4)) 120)).heap.size := by simp
  show Calls Try.prog 41 #[.slice p l.length c] w _
  go_enter Try.func41, Try.ntmps41
  go_wp2
  clear hmk
  go_loopw [4] (fun i wr => ∃ (k : Nat) (zs : List (Int × Int × Int × Bool)), k ≤ l.length ∧ i = .int .i64 k ∧ Below w.heap.size w wr ∧ w.heap.size < wr.heap.size ∧ Hid (MakeSt yMapRange 120 l w.heap.size wr k zs)) (fun i _ => l.length - (intOf i).toNat)
  case atStart => exact ⟨0, [], Nat.zero_le _, rfl, hbl0, hsz0, HM0⟩
  case round =>
    clear HM0 hbl0 hsz0
    obtain ⟨k, zs, hk, rfl, hbl, hsz, HM⟩ := hrel
    by_cases hlt : k < l.length
    · have hp := yMapRangeS_law.rd_blw HR.out hbl
      have hq := hp.2.2.2 _ (List.getElem_mem hlt)
      have hk0 : (0 : Int) ≤ (k : Int) := by omega
      have hk1 : (k : Int) < (l.length : Int) := by omega
      have hqs : yMapRange.size l[k] ≤ 1048576 := by have := size_le yMapRange hlt; have := HSZ.out; omega
      obtain ⟨q, hqe⟩ : ∃ q, q = l[k] := ⟨_, rfl⟩
      rw [← hqe] at hq hqs
      have hc : ∃ b off, p = some ⟨b, off, none⟩ ∧ b < wr.heap.size ∧ ∀ (j : Nat) (v : Value), (yMapRange.cells q)[j]? = some v → wr.cell? ⟨b, off + k * 4 + j, none⟩ = some v := by
        rcases hp.2.2.1 with h0 | ⟨b, off, e, hb, hc⟩
        · have h0 : l = [] := h0
          subst h0; simp at hlt
        · exact ⟨b, off, e, hb, fun j v hv => hc k hlt j v (by rw [← hqe]; exact hv)⟩
      obtain ⟨b, off, rfl, hb, hc⟩ := hc
      clear hp
      have HQE := Hid.intro hqe
      clear hqe
      obtain ⟨q_0, q_1, q_2, q_3⟩ := q
      have c0 : wr.cell? ⟨b, off + k * 4, none⟩ = some (.int .i64 q_0) := hc 0 _ rfl
      have c1 : wr.cell? ⟨b, off + k * 4 + 1, none⟩ = some (.int .i64 q_1) := hc 1 _ rfl
      have c2 : wr.cell? ⟨b, off + k * 4 + 2, none⟩ = some (.int .i64 q_2) := hc 2 _ rfl
      have c3 : wr.cell? ⟨b, off + k * 4 + 3, none⟩ = some (.bool q_3) := hc 3 _ rfl
      have HCE : Hid (∀ (w : World), yMapRange.rd w (q_0, q_1, q_2, q_3) → yMapRange.size (q_0, q_1, q_2, q_3) ≤ 1048576 → Calls Try.prog 85 #[.agg #[.int .i64 q_0, .int .i64 q_1, .int .i64 q_2, .bool q_3]] w fun e w' => ∃ a', e = .returned (yMapRange.val a') ∧ yMapRange.pl a' = yMapRange.pl (q_0, q_1, q_2, q_3) ∧ yMapRange.size a' = yMapRange.size (q_0, q_1, q_2, q_3) ∧ Fresh yMapRange w.heap.size w' a' ∧ Below w.heap.size w w') := Hid.intro (yMapRange_to (q_0, q_1, q_2, q_3))
      have HQ := Hid.intro (And.intro hq hqs)
      clear hq hqs hc
      go_wp2_with fail
      refine (HCE.out _ HQ.out.1 HQ.out.2).mono ?_
      clear HCE
      rintro e w1 ⟨⟨x_0, x_1, x_2, x_3⟩, he, hpl, hss, hf, hb1⟩
      rw [yMapRange_val] at he
      subst he
      have hsz1 : w.heap.size < w1.heap.size := Nat.lt_of_lt_of_le hsz hb1.size
      have hm1 := HM.out.below yMapRange_law hb1
      have hlt1 : ∀ b ∈ zs.flatMap yMapRange.foot, b < wr.heap.size := HM.out.fr.lt yMapRange_law
      obtain ⟨u0, t0⟩ := hm1.row.there (k * 4) (show _ < l.length * 4 by omega)
      have f0 := hm1.row.frz (k * 4)
      obtain ⟨u1, t1⟩ := hm1.row.there (k * 4 + 1) (show _ < l.length * 4 by omega)
      have f1 := hm1.row.frz (k * 4 + 1)
      obtain ⟨u2, t2⟩ := hm1.row.there (k * 4 + 2) (show _ < l.length * 4 by omega)
      have f2 := hm1.row.frz (k * 4 + 2)
      obtain ⟨u3, t3⟩ := hm1.row.there (k * 4 + 3) (show _ < l.length * 4 by omega)
      have f3 := hm1.row.frz (k * 4 + 3)
      have HM2 := Hid.intro (hm1.step yMapRange_law (q := (x_0, x_1, x_2, x_3)) hlt (by rw [← HQE.out]; exact hpl) (by rw [← HQE.out]; exact hss) hf hlt1 hsz)
      have HB2 := Hid.intro (putC_below (Nat.le_refl _) (rowVs (k * yMapRange.sz) (yMapRange.cells (x_0, x_1, x_2, x_3))) (hbl.trans (hb1.mono (by omega))))
      clear hm1 HM HQ hbl hb1 hf hpl hss hlt1 HQE c0 c1 c2 c3
      go_wp2
      go_roundw
      case rel => exact ⟨k + 1, zs ++ [(x_0, x_1, x_2, x_3)], by omega, by go_num, HB2.out, by simpa using hsz1, HM2.out⟩
      case measure => simp [intOf]; omega
    · have hd := HM.out.done (show k = l.length by omega) (by omega)
      have HD := Hid.intro hd
      clear hd HM
      go_wp2
      go_ret
      exact ⟨⟨some ⟨w.heap.size, 0, none⟩, l.length, zs⟩, by show _ = Ending.returned (Value.slice _ zs.length _); rw [HD.out.2.2.2]; rfl, HD.out.2.1, by show zs.length + (zs.map yMapRange.size).sum = l.length + (l.map yMapRange.size).sum; rw [HD.out.2.2.2, HD.out.2.2.1], HD.out.1, hbl⟩

set_option maxRecDepth 100000 in
set_option maxHeartbeats 2000000 in
theorem yMapRangeS_mark : MarkC yMapRangeS 69 := by
  rintro ⟨p, c, l⟩ k0 w ho hn h0 h1
  have hl1 : l.length ≤ c := ho.1
  have hl2 : c ≤ 9223372036854775807 := ho.2.1
  have HC : Hid (k0 + ((cntL yMapRange l : Nat) : Int) ≤ 1000000000000000) := Hid.intro h1
  have HN := Hid.intro hn
  have HS : Hid (MarkSt yMapRange 120 l p c k0 w w 0 l) := Hid.intro (MarkSt.start ho k0)
  clear ho hn h1
  show Calls Try.prog 69 #[.slice p l.length c, .int .i64 k0] w fun e w' => e = .returned (.int .i64 (k0 + ((cntL yMapRange l : Nat) : Int))) ∧ Kept (fun b => b ∈ yMapRangeS.foot ⟨p, c, l⟩) w w' ∧ ∃ a', yMapRangeS.val a' = yMapRangeS.val ⟨p, c, l⟩ ∧ yMapRangeS.cells a' = yMapRangeS.cells ⟨p, c, l⟩ ∧ yMapRangeS.foot a' = yMapRangeS.foot ⟨p, c, l⟩ ∧ yMapRangeS.vcnt a' = yMapRangeS.vcnt ⟨p, c, l⟩ ∧ yMapRangeS.ow w' a' ∧ yMapRangeS.vmkd a' k0
  go_enter Try.func69, Try.ntmps69
  go_wp2
  go_loopw [5, 1] (fun i kk wr => ∃ (j : Nat) (y : Int) (ys : List (Int × Int × Int × Bool)), j ≤ l.length ∧ i = .int .i64 j ∧ kk = .int .i64 y ∧ 0 ≤ y ∧ Hid (y = k0 + ((cntL yMapRange (l.take j) : Nat) : Int)) ∧ Hid (MarkSt yMapRange 120 l p c k0 w wr j ys)) (fun i _ _ => l.length - (intOf i).toNat)
  case atStart => exact ⟨0, k0, l, Nat.zero_le _, rfl, rfl, h0, Hid.intro (by simp [cntL]), HS⟩
  case round =>
    clear HS
    obtain ⟨j, y, ys, hj, rfl, rfl, hy0, HY, HM⟩ := hrel
    by_cases hlt : j < l.length
    · have hj0 : (0 : Int) ≤ (j : Int) := by omega
      have hj1 : (j : Int) < (l.length : Int) := by omega
      obtain ⟨hy, b, hpb, hO, hqo, hqn, hqb, hqc⟩ := HM.out.elem HN.out hlt
      subst hpb
      have hc : ∀ (i : Nat) (v : Value), (yMapRange.cells ys[j])[i]? = some v → wr.cell? ⟨b, j * 4 + i, none⟩ = some v := fun i v hv => hO.rowcell yMapRange_law.len hy i v hv
      have hfz : ∀ o, wr.frozen? ⟨b, o, none⟩ = false := hO.frz
      obtain ⟨cur, hcur⟩ : ∃ cur, wr.heap[b]? = some (.cells cur 120 (0, 0)) := by obtain ⟨cur, h, _⟩ := hO; exact ⟨cur, h⟩
      have hstep := cntL_take yMapRange hlt
      have hpart := cntL_part yMapRange l (j + 1)
      rw [← hqc] at hstep
      have hSTP := fun (q : (Int × Int × Int × Bool)) (vs : List (Nat × Value)) (W : World) => HM.out.step yMapRange_law (W := W) HN.out hlt hy q vs
      have hwb := hO.lt
      clear hO HM hqc
      have hB : y + ((yMapRange.cnt ys[j] : Nat) : Int) ≤ 1000000000000000 := by have h1 := HC.out; have h2 := HY.out; omega
      have hYe : k0 + ((cntL yMapRange (l.take j) : Nat) : Int) = y := HY.out.symm
      simp only [hYe] at hSTP
      clear hYe
      clear hpart
      have HYS := Hid.intro (⟨ys, rfl⟩ : ∃ zs, zs = ys)
      generalize hqe : ys[j] = q at hqo hqn hqb hc hB hSTP hstep
      have HQE := Hid.intro hqe
      clear hqe
      obtain ⟨q_0, q_1, q_2, q_3⟩ := q
      have c0 : wr.cell? ⟨b, j * 4, none⟩ = some (.int .i64 q_0) := hc 0 _ rfl
      have f0 := hfz (j * 4)
      have c1 : wr.cell? ⟨b, j * 4 + 1, none⟩ = some (.int .i64 q_1) := hc 1 _ rfl
      have f1 := hfz (j * 4 + 1)
      have c2 : wr.cell? ⟨b, j * 4 + 2, none⟩ = some (.int .i64 q_2) := hc 2 _ rfl
      have f2 := hfz (j * 4 + 2)
      have c3 : wr.cell? ⟨b, j * 4 + 3, none⟩ = some (.bool q_3) := hc 3 _ rfl
      have f3 := hfz (j * 4 + 3)
      have hbd : y + ((1 + (1 + (1 + (1))) : Nat) : Int) ≤ 1000000000000000 := hB
      have HSC : Hid (cntL yMapRange (l.take (j + 1)) = cntL yMapRange (l.take j) + (1 + (1 + (1 + (1))))) := Hid.intro hstep
      have HSTP := Hid.intro hSTP
      clear hc hB hstep hSTP hfz
      have hqb : ∀ x ∈ [] ++ ([] ++ ([] ++ ([]))), x ≠ b := hqb
      have m0 : ([] ++ ([] ++ ([] ++ ([])))).Nodup := hqn
      have HQ := Hid.intro (And.intro hqo (And.intro hqb trivial))
      clear hqo hqb m0 hqn
      have HEND := Hid.intro (HSTP.out ((y), (y + 1), (y + 1 + 1), ((y + 1 + 1 + 1) % 3 == 0)) [(j * 4, .int .i64 (y)), (j * 4 + 1, .int .i64 (y + 1)), (j * 4 + 2, .int .i64 (y + 1 + 1)), (j * 4 + 3, .bool ((y + 1 + 1 + 1) % 3 == 0))] (putC wr b [(j * 4, .int .i64 (y)), (j * 4 + 1, .int .i64 (y + 1)), (j * 4 + 2, .int .i64 (y + 1 + 1)), (j * 4 + 3, .bool ((y + 1 + 1 + 1) % 3 == 0))]) (by rfl) (by rfl) ⟨(show (y) = y from by omega), (show (y + 1) = y + ((1 : Nat) : Int) from by omega), (show (y + 1 + 1) = y + ((1 : Nat) : Int) + ((1 : Nat) : Int) from by omega), (show ((y + 1 + 1 + 1) % 3 == 0) = ((y + ((1 : Nat) : Int) + ((1 : Nat) : Int) + ((1 : Nat) : Int)) % 3 == 0) from by congr 2)⟩ ⟨trivial, trivial, trivial, trivial⟩ (rfl) ((putC_kept (b := b) _ wr).mono (fun x e => .inl e))
        (by
          intro x hx
          show j * 4 ≤ x.1 ∧ x.1 < j * 4 + 4 ∧ (yMapRange.cells ((y), (y + 1), (y + 1 + 1), ((y + 1 + 1 + 1) % 3 == 0)))[x.1 - j * 4]? = some x.2
          simp only [List.mem_cons, List.not_mem_nil, or_false] at hx
          rcases hx with rfl | rfl | rfl | rfl
          · exact ⟨by simp only; omega, by simp only; omega, by simp only [Nat.sub_self]; rfl⟩
          · exact ⟨by simp only; omega, by simp only; omega, by simp only [Nat.add_sub_cancel_left]; rfl⟩
          · exact ⟨by simp only; omega, by simp only; omega, by simp only [Nat.add_sub_cancel_left]; rfl⟩
          · exact ⟨by simp only; omega, by simp only; omega, by simp only [Nat.add_sub_cancel_left]; rfl⟩)
        (by
          intro i hi
          have hi : i < 4 := hi
          have hd : i = 0 ∨ i = 1 ∨ i = 2 ∨ i = 3 := by omega
          rcases hd with rfl | rfl | rfl | rfl
          · exact .inl ⟨(j * 4, .int .i64 (y)), by simp, rfl⟩
          · exact .inl ⟨(j * 4 + 1, .int .i64 (y + 1)), by simp, rfl⟩
          · exact .inl ⟨(j * 4 + 2, .int .i64 (y + 1 + 1)), by simp, rfl⟩
          · exact .inl ⟨(j * 4 + 3, .bool ((y + 1 + 1 + 1) % 3 == 0)), by simp, rfl⟩))
      have HY2 : Hid (y + 1 + 1 + 1 + 1 = k0 + ((cntL yMapRange (l.take (j + 1)) : Nat) : Int)) := Hid.intro (by have h1 := HSC.out; have h2 := HY.out; omega)
      clear HSTP HSC HY HQ HQE HYS hcur
      go_wp2
      go_roundw
      case rel => exact ⟨j + 1, _, ys.set j ((y), (y + 1), (y + 1 + 1), ((y + 1 + 1 + 1) % 3 == 0)), by omega, by go_num, rfl, by omega, HY2, HEND⟩
      case measure => simp [intOf]; omega
    · have hk3 : ¬ (j : Int) < (l.length : Int) := by omega
      have HE : Hid (y = k0 + ((cntL yMapRange l : Nat) : Int)) := Hid.intro (by have := HY.out; rwa [show j = l.length by omega, List.take_length] at this)
      clear HY
      go_wp2
      go_ret
      exact ⟨congrArg (fun z => Ending.returned (Value.int .i64 z)) HE.out, HM.out.kept, HM.out.done yMapRange_law (by omega) hl1 hl2⟩

set_option maxRecDepth 100000 in
set_option maxHeartbeats 2000000 in
theorem yMapRangeS_held : HeldC yMapRangeS 72 := by
  rintro ⟨p, c, l⟩ k0 w hr hm h0 h1
  have hl1 : l.length ≤ c := hr.1
  have hl2 : c ≤ 9223372036854775807 := hr.2.1
  have HC : Hid (k0 + ((cntL yMapRange l : Nat) : Int) ≤ 1000000000000000) := Hid.intro h1
  have HM : Hid (mkdL yMapRange l k0) := Hid.intro hm
  have HR := Hid.intro hr
  clear hr hm h1
  show Calls Try.prog 72 #[.slice p l.length c, .int .i64 k0] w fun e w' => e = .returned (.int .i64 (k0 + ((cntL yMapRange l : Nat) : Int))) ∧ Below w.heap.size w w'
  go_enter Try.func72, Try.ntmps72
  go_wp2
  go_loopw [5, 1] (fun i kk wr => ∃ (j : Nat) (y : Int), j ≤ l.length ∧ i = .int .i64 j ∧ kk = .int .i64 y ∧ 0 ≤ y ∧ Hid (y = k0 + ((cntL yMapRange (l.take j) : Nat) : Int)) ∧ Below w.heap.size w wr) (fun i _ _ => l.length - (intOf i).toNat)
  case atStart => exact ⟨0, k0, Nat.zero_le _, rfl, rfl, h0, Hid.intro (by simp [cntL]), Below.refl _ _⟩
  case round =>
    obtain ⟨j, y, hj, rfl, rfl, hy0, HY, hbl⟩ := hrel
    by_cases hlt : j < l.length
    · have hp := yMapRangeS_law.rd_blw HR.out hbl
      have hq := hp.2.2.2 _ (List.getElem_mem hlt)
      have hj0 : (0 : Int) ≤ (j : Int) := by omega
      have hj1 : (j : Int) < (l.length : Int) := by omega
      have hst := cntL_take yMapRange hlt
      have hpt := cntL_part yMapRange l (j + 1)
      have hm := mkdL_at HM.out hlt
      rw [← HY.out] at hm
      have hbd : y + ((yMapRange.cnt l[j] : Nat) : Int) ≤ 1000000000000000 := by have h1 := HC.out; have h2 := HY.out; omega
      have hc : ∃ b off, p = some ⟨b, off, none⟩ ∧ b < wr.heap.size ∧ ∀ (i : Nat) (v : Value), (yMapRange.cells l[j])[i]? = some v → wr.cell? ⟨b, off + j * 4 + i, none⟩ = some v := by
        rcases hp.2.2.1 with h0 | ⟨b, off, e, hb, hc⟩
        · have h0 : l = [] := h0
          subst h0; simp at hlt
        · exact ⟨b, off, e, hb, fun i v hv => hc j hlt i v hv⟩
      obtain ⟨b, off, rfl, hb, hc⟩ := hc
      clear hp hpt
      generalize l[j] = q at hq hst hc hm hbd
      obtain ⟨q_0, q_1, q_2, q_3⟩ := q
      have hbd : y + ((1 + (1 + (1 + (1))) : Nat) : Int) ≤ 1000000000000000 := hbd
      have HST : Hid (cntL yMapRange (l.take (j + 1)) = cntL yMapRange (l.take j) + (1 + (1 + (1 + (1))))) := Hid.intro hst
      have c0 : wr.cell? ⟨b, off + j * 4, none⟩ = some (.int .i64 q_0) := hc 0 _ rfl
      have c1 : wr.cell? ⟨b, off + j * 4 + 1, none⟩ = some (.int .i64 q_1) := hc 1 _ rfl
      have c2 : wr.cell? ⟨b, off + j * 4 + 2, none⟩ = some (.int .i64 q_2) := hc 2 _ rfl
      have c3 : wr.cell? ⟨b, off + j * 4 + 3, none⟩ = some (.bool q_3) := hc 3 _ rfl
      have e0 : q_0 = y := (show q_0 = y from hm.1).trans (by omega)
      rw [e0] at c0
      have e1 : q_1 = y + 1 := (show q_1 = y + ((1 : Nat) : Int) from hm.2.1).trans (by omega)
      rw [e1] at c1
      have e2 : q_2 = y + 1 + 1 := (show q_2 = y + ((1 : Nat) : Int) + ((1 : Nat) : Int) from hm.2.2.1).trans (by omega)
      rw [e2] at c2
      have e3 : q_3 = ((y + 1 + 1 + 1) % 3 == 0) := (show q_3 = ((y + ((1 : Nat) : Int) + ((1 : Nat) : Int) + ((1 : Nat) : Int)) % 3 == 0) from hm.2.2.2).trans (by congr 2)
      rw [e3] at c3
      have HQ := Hid.intro (And.intro hq hm)
      clear hq hm hc hst e0 e1 e2 e3
      have HY2 : Hid (y + 1 + 1 + 1 + 1 = k0 + ((cntL yMapRange (l.take (j + 1)) : Nat) : Int)) := Hid.intro (by have h1 := HST.out; have h2 := HY.out; omega)
      have HBL := Hid.intro hbl
      clear HQ HST HY
      go_wp2
      go_roundw
      case rel => exact ⟨j + 1, _, by omega, by go_num, rfl, by omega, HY2, HBL.out⟩
      case measure => simp [intOf]; omega
    · have hk3 : ¬ (j : Int) < (l.length : Int) := by omega
      have HE : Hid (y = k0 + ((cntL yMapRange l : Nat) : Int)) := Hid.intro (by have := HY.out; rwa [show j = l.length by omega, List.take_length] at this)
      clear HY
      go_wp2
      go_ret
      exact ⟨congrArg (fun z => Ending.returned (Value.int .i64 z)) HE.out, hbl⟩

end Go.Proofs.Ytgjlkmhbaimjpaa
