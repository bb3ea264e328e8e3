/-
  tlmCopy of the program: jobs, each with what came of it, in new memory.
-/
import Derived.Test.YtpjfkimgienkbabKTlmJob
import Derived.Test.YtpjfkimgienkbabKndC
import Derived.Test.YtpjfkimgienkbabOpsXM
namespace Go.Proofs.Ytpjfkimgienkbab
open Go.RowKit
set_option linter.unusedSimpArgs false
set_option linter.unusedVariables false

set_option maxRecDepth 100000 in
set_option maxHeartbeats 2000000 in
theorem impl_tlmCopy : ToC yTlmJobS 31 := by
  rintro ⟨p, c, l⟩ w hr hs
  have hl1 : l.length ≤ c := hr.1
  have hl2 : c ≤ 9223372036854775807 := hr.2.1
  have hs' : l.length + (l.map yTlmJob.size).sum ≤ 1048576 := hs
  have hl3 : l.length ≤ 1048576 := by omega
  have HR := Hid.intro hr
  have HSZ := Hid.intro hs'
  clear hr hs hs'
  obtain ⟨i0, hi, hz0, hz1, hz2⟩ := info_parts Try.infoTlmJobS
  have hmk : ∀ W : World, (Instr.makeSlice 29 (.int .i64 (l.length : Int)) (.int .i64 (l.length : Int))).run Try.prog W =
      .ok (.slice (some ⟨W.heap.size, 0, none⟩) l.length l.length) (W.alloc (.cells (madeCells (Value.cells (.agg #[.int .i64 0, .int .i64 0, .int .i64 0, .int .i64 0, .slice none 0 0])) (l.length * 5)) 62)) := fun W => by
    have := run_make (P := Try.prog) W 29 62 i0 _ Try.underlying29 hi hz0 .i64 .i64 (l.length : Int) (l.length : Int) (by omega) (by omega) (by rw [hz2]; omega) (by omega)
    rw [hz1] at this
    simpa using this
  have HM0 : Hid (MakeSt yTlmJob 62 l w.heap.size (w.alloc (.cells (madeCells (Value.cells (.agg #[.int .i64 0, .int .i64 0, .int .i64 0, .int .i64 0, .slice none 0 0])) (l.length * 5)) 62)) 0 []) := Hid.intro (MakeSt.start yTlmJob_law (by rfl))
  have hbl0 : Below w.heap.size w (w.alloc (.cells (madeCells (Value.cells (.agg #[.int .i64 0, .int .i64 0, .int .i64 0, .int .i64 0, .slice none 0 0])) (l.length * 5)) 62)) := (Below.refl _ w).alloc (Nat.le_refl _) _
  have hsz0 : w.heap.size < (w.alloc (.cells (madeCells (Value.cells (.agg #[.int .i64 0, .int .i64 0, .int .i64 0, .int .i64 0, .slice none 0 0])) (l.length * 5)) 62)).heap.size := by simp
  show Calls Try.prog 31 #[.slice p l.length c] w _
  go_enter Try.func31, Try.ntmps31
  go_wp2
  clear hmk
  go_loopw [11] (fun i wr => ∃ (k : Nat) (zs : List (Int × Int × (Int × Int × (Lst Int)))), k ≤ l.length ∧ i = .int .i64 k ∧ Below w.heap.size w wr ∧ w.heap.size < wr.heap.size ∧ Hid (MakeSt yTlmJob 62 l w.heap.size wr k zs)) (fun i _ => l.length - (intOf i).toNat)
  case atStart => exact ⟨0, [], Nat.zero_le _, rfl, hbl0, hsz0, HM0⟩
  case round =>
    clear HM0 hbl0 hsz0
    obtain ⟨k, zs, hk, rfl, hbl, hsz, HM⟩ := hrel
    by_cases hlt : k < l.length
    · have hp := yTlmJobS_law.rd_blw HR.out hbl
      have hq := hp.2.2.2 _ (List.getElem_mem hlt)
      have hk0 : (0 : Int) ≤ (k : Int) := by omega
      have hk1 : (k : Int) < (l.length : Int) := by omega
      have hqs : yTlmJob.size l[k] ≤ 1048576 := by have := size_le yTlmJob hlt; have := HSZ.out; omega
      obtain ⟨q, hqe⟩ : ∃ q, q = l[k] := ⟨_, rfl⟩
      rw [← hqe] at hq hqs
      have hc : ∃ b off, p = some ⟨b, off, none⟩ ∧ b < wr.heap.size ∧ ∀ (j : Nat) (v : Value), (yTlmJob.cells q)[j]? = some v → wr.cell? ⟨b, off + k * 5 + j, none⟩ = some v := by
        rcases hp.2.2.1 with h0 | ⟨b, off, e, hb, hc⟩
        · have h0 : l = [] := h0
          subst h0; simp at hlt
        · exact ⟨b, off, e, hb, fun j v hv => hc k hlt j v (by rw [← hqe]; exact hv)⟩
      obtain ⟨b, off, rfl, hb, hc⟩ := hc
      clear hp
      have HQE := Hid.intro hqe
      clear hqe
      obtain ⟨q_0, q_1, ⟨q_2_0, q_2_1, q_2_2⟩⟩ := q
      have c0 : wr.cell? ⟨b, off + k * 5, none⟩ = some (.int .i64 q_0) := hc 0 _ rfl
      have c1 : wr.cell? ⟨b, off + k * 5 + 1, none⟩ = some (.int .i64 q_1) := hc 1 _ rfl
      have c2 : wr.cell? ⟨b, off + k * 5 + 2, none⟩ = some (.int .i64 q_2_0) := hc 2 _ rfl
      have c3 : wr.cell? ⟨b, off + k * 5 + 3, none⟩ = some (.int .i64 q_2_1) := hc 3 _ rfl
      have c4 : wr.cell? ⟨b, off + k * 5 + 4, none⟩ = some (.slice q_2_2.p q_2_2.l.length q_2_2.c) := hc 4 _ rfl
      have HQ := Hid.intro (And.intro hq hqs)
      clear hq hqs hc
      have hdat := (yI_rd.1 (show yI.rd wr q_2_2 from HQ.out.1.2.2.2.2))
      have hdl : q_2_2.l.length ≤ 2000000 := by
        have h1 : yTlmJob.size (q_0, q_1, (q_2_0, q_2_1, q_2_2)) = 0 + (0 + (0 + (0 + yI.size q_2_2))) := rfl
        have h2 := HQ.out.2
        rw [h1, yI_size] at h2
        omega
      have gr0 : Below wr.heap.size wr (wr.alloc (.cells #[.int .i64 q_0, .int .i64 q_1, .int .i64 q_2_0, .int .i64 q_2_1, .slice q_2_2.p q_2_2.l.length q_2_2.c] 62)) := (Below.refl _ _).alloc (Nat.le_refl _) _
      have HDA := Hid.intro (And.intro (hdat.2.2.below gr0) hdl)
      clear hdat hdl
      have HG0 := Hid.intro gr0
      clear gr0
      have hne : w.heap.size ≠ wr.heap.size := by omega
      have hne' : wr.heap.size ≠ w.heap.size := by omega
      go_wp2_with (at_builtin; refine wpList_copyN q_2_2.l rfl rfl rfl rfl HDA.out.1 HDA.out.2 ?_; intro p' c' w1 hF hg; have bJ : w1.heap[wr.heap.size]? = some (.cells #[.int .i64 q_0, .int .i64 q_1, .int .i64 q_2_0, .int .i64 q_2_1, .slice q_2_2.p q_2_2.l.length q_2_2.c] 62 (0, 0)) := (hg.block _ (by simp)).trans (nw_k _ rfl); have j0 : w1.cell? ⟨wr.heap.size, 0, none⟩ = some (.int .i64 q_0) := heap_cell bJ 0; have j1 : w1.cell? ⟨wr.heap.size, 1, none⟩ = some (.int .i64 q_1) := heap_cell bJ 1; have j2 : w1.cell? ⟨wr.heap.size, 2, none⟩ = some (.int .i64 q_2_0) := heap_cell bJ 2; have j3 : w1.cell? ⟨wr.heap.size, 3, none⟩ = some (.int .i64 q_2_1) := heap_cell bJ 3; have j4 : w1.cell? ⟨wr.heap.size, 4, none⟩ = some (.slice q_2_2.p q_2_2.l.length q_2_2.c) := heap_cell bJ 4; have j4f : w1.frozen? ⟨wr.heap.size, 4, none⟩ = false := heap_free bJ 4; have hb1 : Below wr.heap.size wr w1 := HG0.out.trans (hg.mono (by simp)); have hm1 := HM.out.below yTlmJob_law hb1; obtain ⟨u0, t0⟩ := hm1.row.there (k * 5) (show _ < l.length * 5 by omega); have f0 := hm1.row.frz (k * 5); obtain ⟨u1, t1⟩ := hm1.row.there (k * 5 + 1) (show _ < l.length * 5 by omega); have f1 := hm1.row.frz (k * 5 + 1); obtain ⟨u2, t2⟩ := hm1.row.there (k * 5 + 2) (show _ < l.length * 5 by omega); have f2 := hm1.row.frz (k * 5 + 2); obtain ⟨u3, t3⟩ := hm1.row.there (k * 5 + 3) (show _ < l.length * 5 by omega); have f3 := hm1.row.frz (k * 5 + 3); obtain ⟨u4, t4⟩ := hm1.row.there (k * 5 + 4) (show _ < l.length * 5 by omega); have f4 := hm1.row.frz (k * 5 + 4); have HH := Hid.intro (And.intro hF (And.intro bJ (And.intro hb1 hm1))); clear hF hg bJ hb1 hm1)
      have hJs := HH.out.2.2.1.size
      have hJN : ∀ x, x ≠ wr.heap.size → (w1.setCell ⟨wr.heap.size, 4, none⟩ (.slice p' q_2_2.l.length c')).heap[x]? = w1.heap[x]? := fun x hx => heap_set_ne hx
      have hb2 : Below wr.heap.size wr (w1.setCell ⟨wr.heap.size, 4, none⟩ (.slice p' q_2_2.l.length c')) := HH.out.2.2.1.setCell (p := ⟨wr.heap.size, 4, none⟩) (Nat.le_refl _) _
      have hm2 := HM.out.below yTlmJob_law hb2
      have hF2 : Fresh yI (wr.heap.size + 1) (w1.setCell ⟨wr.heap.size, 4, none⟩ (.slice p' q_2_2.l.length c')) ⟨p', c', q_2_2.l⟩ := (HH.out.1.mono (by simp)).of yI_law (fun x hx => hJN x (by have := HH.out.1.ge x hx; simp at this; omega))
      have hf : Fresh yTlmJob (wr.heap.size + 1) (w1.setCell ⟨wr.heap.size, 4, none⟩ (.slice p' q_2_2.l.length c')) (q_0, q_1, (q_2_0, q_2_1, (⟨p', c', q_2_2.l⟩ : Lst Int))) := Fresh.recd (Fresh.pair (Fresh.int _ _ _) (Nat.le_refl _) (lt_int _ _) (Fresh.pair (Fresh.int _ _ _) (Nat.le_refl _) (lt_int _ _) (Fresh.recd (Fresh.pair (Fresh.int _ _ _) (Nat.le_refl _) (lt_int _ _) (Fresh.pair (Fresh.int _ _ _) (Nat.le_refl _) (lt_int _ _) hF2)))))
      have hlt1 : ∀ b ∈ zs.flatMap yTlmJob.foot, b < wr.heap.size + 1 := fun b hb => by have := HM.out.fr.lt yTlmJob_law b hb; omega
      have HM2 := Hid.intro (hm2.step yTlmJob_law (q := (q_0, q_1, (q_2_0, q_2_1, (⟨p', c', q_2_2.l⟩ : Lst Int)))) hlt (by rw [← HQE.out]; rfl) (by rw [← HQE.out]; rfl) hf hlt1 (by omega))
      have HB2 := Hid.intro (putC_below (Nat.le_refl _) (rowVs (k * yTlmJob.sz) (yTlmJob.cells (q_0, q_1, (q_2_0, q_2_1, (⟨p', c', q_2_2.l⟩ : Lst Int))))) (hbl.trans (hb2.mono (by omega))))
      have hsz1 : w.heap.size < w1.heap.size := by omega
      go_roundw
      case rel => exact ⟨k + 1, zs ++ [(q_0, q_1, (q_2_0, q_2_1, (⟨p', c', q_2_2.l⟩ : Lst Int)))], by omega, by go_num, HB2.out, by simpa using hsz1, HM2.out⟩
      case measure => simp [intOf]; omega
    · have hd := HM.out.done (show k = l.length by omega) (by omega)
      have HD := Hid.intro hd
      clear hd HM
      go_wp2
      go_ret
      exact ⟨⟨some ⟨w.heap.size, 0, none⟩, l.length, zs⟩, by show _ = Ending.returned (Value.slice _ zs.length _); rw [HD.out.2.2.2]; rfl, HD.out.2.1, by show zs.length + (zs.map yTlmJob.size).sum = l.length + (l.map yTlmJob.size).sum; rw [HD.out.2.2.2, HD.out.2.2.1], HD.out.1, hbl⟩

end Go.Proofs.Ytpjfkimgienkbab
