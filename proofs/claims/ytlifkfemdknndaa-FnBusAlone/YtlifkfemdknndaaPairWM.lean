/-
  Two results, stored: a block of two cells, and one of three.
-/
import Derived.Test.YtlifkfemdknndaaSpcDM
import Derived.BigQuiet
import Derived.Test.YtlifkfemdknndaaPureT
/-
  l4Free of the model: lets go of addresses, in place.
-/
namespace Go.Proofs.Ytlifkfemdknndaa
open Go.RowKit
set_option linter.unusedSimpArgs false
set_option linter.unusedVariables false

/-- k of them are done -/
def mixF (hs all : List Int) (k : Nat) : List Int := freeAll (hs.take k) all ++ hs.drop k
theorem mixF_len (hs all : List Int) (k : Nat) (h : k ≤ hs.length) : (mixF hs all k).length = hs.length := by simp [mixF, freeAll]; omega
theorem mixF_zero (hs all : List Int) : mixF hs all 0 = hs := by simp [mixF, freeAll]
theorem mixF_all (hs all : List Int) : mixF hs all hs.length = freeAll hs all := by simp [mixF]
theorem mixF_at (hs all : List Int) (k : Nat) (h : k < hs.length) : (mixF hs all k)[k]? = some hs[k] := by
  have hl : (freeAll (hs.take k) all).length = k := by simp [freeAll]; omega
  unfold mixF
  rw [List.getElem?_append_right (by omega), hl]
  simp [h]
theorem mixF_step (hs all : List Int) (k : Nat) (h : k < hs.length) : (mixF hs all k).set k (free1 all hs[k]) = mixF hs all (k + 1) := by
  have hl : (freeAll (hs.take k) all).length = k := by simp [freeAll]; omega
  have e : hs.drop k = hs[k] :: hs.drop (k + 1) := List.drop_eq_getElem_cons h
  have e2 : freeAll (hs.take (k + 1)) all = freeAll (hs.take k) all ++ [free1 all hs[k]] := by
    rw [List.take_succ_eq_append_getElem h]; simp only [freeAll, List.map_append]; rfl
  unfold mixF
  rw [e2, e, List.append_assoc, List.set_append_right _ _ (by omega), hl, Nat.sub_self]
  rfl
theorem free1_nil (h : Int) : free1 [] h = h := by simp [free1]
theorem mem_take_succ {all : List Int} {j : Nat} (hj : j < all.length) (h : Int) : h ∈ all.take (j + 1) ↔ h ∈ all.take j ∨ h = all[j] := by
  rw [List.take_succ_eq_append_getElem hj]
  simp only [List.mem_append, List.mem_singleton]
theorem free1_hit {all : List Int} {h : Int} {j : Nat} (hj : j < all.length) (e : free1 (all.take j) h = all[j]) : free1 (all.take (j + 1)) h = -1 := by
  unfold free1 at *
  by_cases hm : h ∈ all.take j
  · rw [if_pos ((mem_take_succ hj h).2 (.inl hm))]
  · rw [if_neg hm] at e
    rw [if_pos ((mem_take_succ hj h).2 (.inr e))]
theorem free1_miss {all : List Int} {h : Int} {j : Nat} (hj : j < all.length) (e : free1 (all.take j) h ≠ all[j]) : free1 (all.take (j + 1)) h = free1 (all.take j) h := by
  unfold free1 at *
  by_cases hm : h ∈ all.take j
  · rw [if_pos ((mem_take_succ hj h).2 (.inl hm)), if_pos hm]
  · rw [if_neg hm] at e
    rw [if_neg hm, if_neg (fun hc => by rcases (mem_take_succ hj h).1 hc with h' | h'; exact hm h'; exact e h')]

set_option maxRecDepth 100000 in
set_option maxHeartbeats 2000000 in
theorem spec_l4Free (pw : Option Addr) (lw cw : Nat) (g ch : Nat) (hs : List Int) (q : Option Addr) (cq : Nat) (all : List Int) (w : World) (hg : ORow 3 1 w g ch hs.length (hs.map (Value.int .i64))) (hq : IntsAt w q all) (hqg : Off g q all) (hlh : hs.length ≤ 1000) (hla : all.length ≤ 1000) :
    Calls Try.prog 88 #[.agg #[.slice pw lw cw, .slice (some ⟨g, 0, none⟩) hs.length ch], .slice q all.length cq] w fun e w' => e = .returned (.agg #[.slice pw lw cw, .slice (some ⟨g, 0, none⟩) hs.length ch]) ∧ ORow 3 1 w' g ch hs.length ((freeAll hs all).map (Value.int .i64)) ∧ Kept (fun k => k = g) w w' := by
  have HG := Hid.intro hg
  have HQ := Hid.intro (And.intro hq hqg)
  have hgl := hg.lt
  clear hg hq hqg
  have hb2 : ∀ o o', Below w.heap.size w ((w.alloc o).alloc o') := fun o o' => ((Below.refl _ w).alloc (Nat.le_refl _) o).alloc (by simp) o'
  go_enter Try.func88, Try.ntmps88
  go_wp2_with fail
  go_loopw [5] (fun i wr => ∃ (k : Nat), k ≤ hs.length ∧ i = .int .i64 k ∧ Hid (ORow 3 1 wr g ch hs.length ((mixF hs all k).map (Value.int .i64))) ∧ Hid (Kept (fun k => k = g) w wr) ∧ wr.heap[w.heap.size]? = some (.cells #[.slice pw lw cw, .slice (some ⟨g, 0, none⟩) hs.length ch] 45 (0, 0)) ∧ wr.heap[w.heap.size + 1]? = some (.cells #[.slice none 0 0, .slice none 0 0] 45 (0, 0))) (fun i _ => hs.length - (intOf i).toNat)
  case atStart =>
    refine ⟨0, Nat.zero_le _, rfl, ?_, Kept.of_below (hb2 _ _), (Below.heap_alloc _ _ _ (by simp)).trans (nw_at _ rfl), nw_at _ (by simp)⟩
    rw [mixF_zero]
    exact HG.out.of ((hb2 _ _).block g hgl)
  case round =>
    obtain ⟨k, hk, rfl, HO, HK, hB, hR⟩ := hrel
    have cB1 : wr.cell? ⟨w.heap.size, 1, none⟩ = some (.slice (some ⟨g, 0, none⟩) hs.length ch) := heap_cell hB 1
    by_cases hlt : k < hs.length
    · have hk0 : (0 : Int) ≤ (k : Int) := by omega
      have hk1 : (k : Int) < (hs.length : Int) := by omega
      go_wp2_with fail
      go_loopw [6] (fun i wr' => ∃ (j : Nat), j ≤ all.length ∧ i = .int .i64 j ∧ Hid (ORow 3 1 wr' g ch hs.length (((mixF hs all k).set k (free1 (all.take j) hs[k])).map (Value.int .i64))) ∧ Hid (Kept (fun k => k = g) w wr') ∧ wr'.heap[w.heap.size]? = some (.cells #[.slice pw lw cw, .slice (some ⟨g, 0, none⟩) hs.length ch] 45 (0, 0)) ∧ wr'.heap[w.heap.size + 1]? = some (.cells #[.slice none 0 0, .slice none 0 0] 45 (0, 0))) (fun i _ => all.length - (intOf i).toNat)
      case atStart =>
        refine ⟨0, Nat.zero_le _, rfl, ?_, HK, hB, hR⟩
        have : (mixF hs all k).set k (free1 (all.take 0) hs[k]) = mixF hs all k := by
          rw [List.take_zero, free1_nil]
          have h1 := mixF_at hs all k hlt
          have hl := mixF_len hs all k hk
          apply List.ext_getElem?
          intro i
          rw [List.getElem?_set]
          by_cases hki : k = i
          · subst hki; rw [h1]; simp [hl, hlt]
          · simp [hki]
        show ORow _ _ _ _ _ _ _
        rw [this]; exact HO.out
      case round =>
        clear HO HK hB hR cB1
        obtain ⟨j, hj, rfl, HO, HK, hB, hR⟩ := hrel
        have cB1 : wr.cell? ⟨w.heap.size, 1, none⟩ = some (.slice (some ⟨g, 0, none⟩) hs.length ch) := heap_cell hB 1
        by_cases hjl : j < all.length
        · have hj0 : (0 : Int) ≤ (j : Int) := by omega
          have hj1 : (j : Int) < (all.length : Int) := by omega
          rcases HQ.out.1 with hx | ⟨bq, oq, rfl, hbq, hcq⟩
          · subst hx; simp at hjl
          have nq : bq ≠ g := by
            rcases HQ.out.2 with h | h
            · subst h; simp at hjl
            · exact h bq oq rfl
          have cq1 := (HK.out.cell (p := ⟨bq, oq + j, none⟩) hbq nq).trans (hcq j hjl)
          have hml := mixF_len hs all k hk
          have ch1 : wr.cell? ⟨g, k, none⟩ = some (.int .i64 (free1 (all.take j) hs[k])) := HO.out.get k _ (by simp [hml, hlt])
          have fh1 := HO.out.free k
          by_cases he : free1 (all.take j) hs[k] = all[j]
          · have HST := Hid.intro (free1_hit hjl he)
            have hq1 : (free1 (all.take j) hs[k] == all[j]) = true := by simpa using he
            have hset : ((mixF hs all k).set k (free1 (all.take j) hs[k])).set k (-1) = (mixF hs all k).set k (-1) := by simp
            have HS2 := Hid.intro (HO.out.set k hlt (-1))
            rw [hset] at HS2
            have hwl := heap_lt hR
            generalize hv : free1 (all.take j) hs[k] = v at ch1 hq1
            generalize all[j] = u at cq1 hq1 he
            subst he
            clear HO hcq
            go_wp2_with fail
            go_quiet (fail)
            go_wp2
            go_roundw
            case rel =>
              refine ⟨j + 1, by omega, by go_num, ?_, ?_, ?_, ?_⟩
              · show ORow _ _ _ _ _ _ _
                rw [HST.out]
                exact HS2.out.of rfl
              · show Kept _ _ _
                exact (HK.out.trans (Kept.of_below (below_drewN (Below.refl _ _) nq))).trans (Kept.setCell (D := fun k => k = g) (p := ⟨g, k, none⟩) _ rfl _)
              · exact (heap_set_ne (by omega)).trans hB
              · exact (heap_set_ne (by omega)).trans hR
            case measure => simp [intOf]; omega
          · have HST := Hid.intro (free1_miss hjl he)
            have hq1 : (free1 (all.take j) hs[k] == all[j]) = false := by simpa using he
            generalize hv : free1 (all.take j) hs[k] = v at ch1 hq1
            generalize all[j] = u at cq1 hq1 he
            clear hcq he
            have HV := Hid.intro hv
            clear hv
            go_wp2_with fail
            go_quiet (fail)
            go_wp2
            go_roundw
            case rel =>
              refine ⟨j + 1, by omega, by go_num, ?_, ?_, hB, hR⟩
              · show ORow _ _ _ _ _ _ _
                rw [HST.out]
                exact HO.out.of rfl
              · show Kept _ _ _
                exact HK.out.trans (Kept.of_below (below_drewN (Below.refl _ _) nq))
            case measure => simp [intOf]; omega
        · have hje : j = all.length := by omega
          subst hje
          have hj1 : ¬ ((all.length : Nat) : Int) < ((all.length : Nat) : Int) := by omega
          have hO := HO.out
          rw [List.take_length, mixF_step hs all k hlt] at hO
          have HO2 := Hid.intro hO
          clear hO HO
          go_wp2
          go_roundw
          case rel => exact ⟨k + 1, by omega, by go_num, HO2, HK, hB, hR⟩
          case measure => simp [intOf]; omega
    · have hke : k = hs.length := by omega
      subst hke
      have hO := HO.out
      rw [mixF_all] at hO
      have hk1 : ¬ ((hs.length : Nat) : Int) < ((hs.length : Nat) : Int) := by omega
      have c0 : wr.cell? ⟨w.heap.size, 0, none⟩ = some (.slice pw lw cw) := heap_cell hB 0
      have r0 : wr.cell? ⟨w.heap.size + 1, 0, none⟩ = some (.slice none 0 0) := heap_cell hR 0
      have r1 : wr.cell? ⟨w.heap.size + 1, 1, none⟩ = some (.slice none 0 0) := heap_cell hR 1
      have f0 := heap_free hR 0
      have f1 := heap_free hR 1
      have hR2 := heap_set (heap_set hR 0 (.slice pw lw cw)) 1 (.slice (some ⟨g, 0, none⟩) hs.length ch)
      have s0 := (heap_cell hR2 0)
      have s1 := (heap_cell hR2 1)
      simp at s0 s1
      have HO2 := Hid.intro (hO.of ((heap_set_ne (w := wr.setCell ⟨w.heap.size + 1, 0, none⟩ (.slice pw lw cw)) (b := w.heap.size + 1) (i := 1) (v := .slice (some ⟨g, 0, none⟩) hs.length ch) (by omega)).trans (heap_set_ne (by omega))))
      have hwl := heap_lt hR
      clear hR2 hR hB hO HO
      go_wp2
      refine bodyPost_ret (v := .agg #[.slice pw lw cw, .slice (some ⟨g, 0, none⟩) hs.length ch]) (by simp [results, Try.results88, go_sem, s0, s1]) rfl ⟨rfl, HO2.out, ?_⟩
      exact ⟨HK.out.os, HK.out.tape, HK.out.output, by have := HK.out.size; simp; omega, fun i hi hne => (heap_set_ne (b := w.heap.size + 1) (by omega)).trans ((heap_set_ne (b := w.heap.size + 1) (by omega)).trans (HK.out.block i hi hne))⟩

end Go.Proofs.Ytlifkfemdknndaa

/-
  Plain mathematics of chapter 4 (one thing at once): what is done, in which order, by whom.
-/
namespace Go.Proofs.Ytlifkfemdknndaa
set_option linter.unusedSimpArgs false
set_option linter.unusedVariables false

theorem atmOk_parts {ms : List Rng} {s : Stt} {who : Int} {r : Req} (h : atmOkB ms s who r = true) : mapOkB ms = true ∧ memOkB s.words = true ∧ s.holds.length = 6 ∧ allIn s.holds (-1) 63 = true ∧ (0 ≤ who ∧ who ≤ 2) ∧ reqOkB r = true := by
  simp only [atmOkB, stOkB, Bool.and_eq_true, decide_eq_true_eq, inB] at h
  exact ⟨h.1, h.2.1.1, h.2.1.2.1, h.2.1.2.2, h.2.2.1, h.2.2.2⟩
theorem req_parts {r : Req} (h : reqOkB r = true) : (r.id = 0 ∨ r.id = 1) ∧ adrOkB r.addr r.many r.wrap = true ∧
    ((r.kind = 1 ∧ r.data.length = 0 ∧ r.lanes.length = 0) ∨ (r.kind = 2 ∧ (r.data.length : Int) = r.many ∧ (r.lanes.length : Int) = r.many) ∨ (r.kind = 3 ∧ r.many = 1 ∧ r.data.length = 0 ∧ r.lanes.length = 0) ∨ (r.kind = 4 ∧ r.many = 1 ∧ r.data.length = 1 ∧ r.lanes.length = 1)) := by
  obtain ⟨id, kind, addr, many, wrap, data, lanes⟩ := r
  simp only [reqOkB, reqHeadB, reqOneB, Bool.and_eq_true, inB, decide_eq_true_eq] at h
  obtain ⟨⟨h1, h2, h3⟩, h4, h5⟩ := h
  refine ⟨by simp; omega, h3, ?_⟩
  have hk : kind = 1 ∨ kind = 2 ∨ kind = 3 ∨ kind = 4 := by omega
  rcases hk with rfl | rfl | rfl | rfl
  all_goals simp [writesB, reqWordsB, reqNoneB] at h4 h5
  · exact .inl ⟨rfl, by simp [h5.1], by simp [h5.2]⟩
  · exact .inr (.inl ⟨rfl, h5.1, h5.2.1⟩)
  · exact .inr (.inr (.inl ⟨rfl, h4, by simp [h5.1], by simp [h5.2]⟩))
  · refine .inr (.inr (.inr ⟨rfl, h4, ?_, ?_⟩))
    · have := h5.1; simp; omega
    · have := h5.2.1; simp; omega
theorem burst_in {x m : Int} {wrap : Bool} : ∀ a ∈ burst x m wrap, 0 ≤ a ∧ a ≤ 63 := by
  intro a ha
  cases h : adrOkB x m wrap
  · rw [burst_no h] at ha; cases ha
  · rw [burst_ok h] at ha
    obtain ⟨k, hk, rfl⟩ := List.mem_map.1 ha
    obtain ⟨h1, h2, h3, h4⟩ := (adrOk_iff x m wrap).1 h
    simp at hk
    cases wrap <;> simp [burstAt] at h4 ⊢ <;> rcases h3 with rfl | rfl | rfl <;> omega
theorem burst_ln {x m : Int} {wrap : Bool} (h : adrOkB x m wrap = true) : ((burst x m wrap).length : Int) = m := by
  obtain ⟨_, _, h3, _⟩ := (adrOk_iff x m wrap).1 h
  rw [burst_ok h]; simp; omega
theorem burst_le (x m : Int) (wrap : Bool) : (burst x m wrap).length ≤ 4 := by
  cases h : adrOkB x m wrap
  · rw [burst_no h]; simp
  · obtain ⟨_, _, h3, _⟩ := (adrOk_iff x m wrap).1 h
    rw [burst_ok h]; simp; omega

theorem memOk_iff (ws : List Int) : memOkB ws = true ↔ ws.length = 64 ∧ ∀ x ∈ ws, 0 ≤ x ∧ x ≤ 65535 := by
  simp [memOkB, wrdB, inB]
theorem allIn_iff (l : List Int) (lo hi : Int) : allIn l lo hi = true ↔ ∀ x ∈ l, lo ≤ x ∧ x ≤ hi := by simp [allIn, inB]
theorem stOk_iff (s : Stt) : stOkB s = true ↔ (s.words.length = 64 ∧ ∀ x ∈ s.words, 0 ≤ x ∧ x ≤ 65535) ∧ s.holds.length = 6 ∧ ∀ x ∈ s.holds, -1 ≤ x ∧ x ≤ 63 := by
  simp [stOkB, memOk_iff, allIn_iff]
theorem rspOk_iff (r : Rsp) : rspOkB r = true ↔ (0 ≤ r.id ∧ r.id ≤ 1) ∧ (1 ≤ r.code ∧ r.code ≤ 4) ∧ r.data.length ≤ 4 ∧ ∀ x ∈ r.data, 0 ≤ x ∧ x ≤ 65535 := by
  simp [rspOkB, allIn_iff, inB]
theorem getZ_gets {ws : List Int} {a : Int} (h0 : 0 ≤ a) (h1 : a < ws.length) : ∃ h : a.toNat < ws.length, getZ ws a = ws[a.toNat] := ⟨by omega, by unfold getZ; rw [List.getD_eq_getElem?_getD, List.getElem?_eq_getElem (by omega)]; rfl⟩
theorem getZ_mem {ws : List Int} {a : Int} (h0 : 0 ≤ a) (h1 : a < ws.length) : getZ ws a ∈ ws := by
  obtain ⟨h, e⟩ := getZ_gets h0 h1
  rw [e]; exact List.getElem_mem _
theorem getZ_word {ws : List Int} (h : memOkB ws = true) {a : Int} (h0 : 0 ≤ a) (h1 : a ≤ 63) : 0 ≤ getZ ws a ∧ getZ ws a ≤ 65535 := by
  rw [memOk_iff] at h
  exact h.2 _ (getZ_mem h0 (by omega))
theorem getZ_ext {l m : List Int} (hl : l.length = m.length) (h : ∀ a : Int, 0 ≤ a → a < l.length → getZ l a = getZ m a) : l = m := by
  refine List.ext_getElem hl fun i h1 h2 => ?_
  have := h i (by omega) (by omega)
  unfold getZ at this
  simpa [List.getD_eq_getElem?_getD, h1, h2] using this
theorem getZ_set (ws : List Int) {a b : Int} (v : Int) (ha : 0 ≤ a) (hb : 0 ≤ b) (hb1 : b < ws.length) : getZ (ws.set a.toNat v) b = if b = a then v else getZ ws b := by
  unfold getZ
  have hbn : b.toNat < ws.length := by omega
  simp only [List.getD_eq_getElem?_getD, List.getElem?_set]
  by_cases h : b = a
  · subst h; simp [hbn]
  · rw [if_neg (by omega), if_neg h]
theorem getZ_put1 (ws : List Int) {a b : Int} (d l : Int) (ha : 0 ≤ a) (hb : 0 ≤ b) (hb1 : b < ws.length) : getZ (put1 ws a d l) b = if b = a then wrdPutZ (getZ ws a) d l else getZ ws b := getZ_set ws _ ha hb hb1

theorem putN_out {ws all data lanes : List Int} (hp : ∀ x ∈ all, 0 ≤ x ∧ x ≤ 63) {b : Int} (hb : 0 ≤ b) (hb1 : b < ws.length) (hn : b ∉ all) : ∀ k, k ≤ all.length → getZ (putN ws all data lanes k) b = getZ ws b
  | 0, _ => rfl
  | k + 1, hk => by
    have hm : all.getD k 0 ∈ all := by rw [List.getD_eq_getElem?_getD, List.getElem?_eq_getElem (by omega)]; exact List.getElem_mem _
    rw [putN, getZ_put1 _ _ _ (hp _ hm).1 hb (by rw [putN_len]; exact hb1), if_neg (show ¬ (b = all.getD k 0) from fun e => hn (by rw [e]; exact hm)), putN_out hp hb hb1 hn k (by omega)]
theorem putAll_out {ws all data lanes : List Int} (hp : ∀ x ∈ all, 0 ≤ x ∧ x ≤ 63) {b : Int} (hb : 0 ≤ b) (hb1 : b < ws.length) (hn : b ∉ all) : getZ (putAll ws all data lanes) b = getZ ws b := putN_out hp hb hb1 hn _ (Nat.le_refl _)

theorem nodup_get {all : List Int} (h : all.Nodup) {i j : Nat} (hi : i < all.length) (hj : j < all.length) (e : all[i] = all[j]) : i = j := (List.getElem_inj h).1 e

theorem putN_later {ws all data lanes : List Int} (hp : ∀ x ∈ all, 0 ≤ x ∧ x ≤ 63) (hw : ws.length = 64) (hd : all.Nodup) {i : Nat} (hi : i < all.length) : ∀ k, k ≤ i → getZ (putN ws all data lanes k) all[i] = getZ ws all[i]
  | 0, _ => rfl
  | k + 1, hk => by
    have hb := hp _ (List.getElem_mem hi)
    have hk' : k < all.length := by omega
    have hg : all.getD k 0 = all[k] := by simp [List.getD_eq_getElem?_getD, hk']
    have hm := hp _ (List.getElem_mem hk')
    rw [putN, hg, getZ_put1 _ _ _ hm.1 hb.1 (by rw [putN_len]; omega), if_neg (fun e => by have := nodup_get hd hi hk' e; omega), putN_later hp hw hd hi k (by omega)]
theorem putN_in {ws all data lanes : List Int} (hp : ∀ x ∈ all, 0 ≤ x ∧ x ≤ 63) (hw : ws.length = 64) (hd : all.Nodup) {i : Nat} (hi : i < all.length) : ∀ k, i < k → k ≤ all.length → getZ (putN ws all data lanes k) all[i] = wrdPutZ (getZ ws all[i]) (data.getD i 0) (lanes.getD i 0)
  | 0, h, _ => by omega
  | k + 1, h, hk => by
    have hb := hp _ (List.getElem_mem hi)
    have hk' : k < all.length := by omega
    have hg : all.getD k 0 = all[k] := by simp [List.getD_eq_getElem?_getD, hk']
    have hm := hp _ (List.getElem_mem hk')
    rw [putN, hg, getZ_put1 _ _ _ hm.1 hb.1 (by rw [putN_len]; omega)]
    by_cases e : i = k
    · subst e
      rw [if_pos rfl, putN_later hp hw hd hi i (Nat.le_refl _)]
    · rw [if_neg (fun e' => e (nodup_get hd hi hk' e')), putN_in hp hw hd hi k (by omega) (by omega)]
theorem putAll_in {ws all data lanes : List Int} (hp : ∀ x ∈ all, 0 ≤ x ∧ x ≤ 63) (hw : ws.length = 64) (hd : all.Nodup) {i : Nat} (hi : i < all.length) : getZ (putAll ws all data lanes) all[i] = wrdPutZ (getZ ws all[i]) (data.getD i 0) (lanes.getD i 0) := putN_in hp hw hd hi _ hi (Nat.le_refl _)

theorem burst_nodup (x m : Int) (wrap : Bool) : (burst x m wrap).Nodup := by
  cases h : adrOkB x m wrap
  · rw [burst_no h]; exact List.nodup_nil
  · rw [burst_ok h]
    obtain ⟨h1, h2, h3, h4⟩ := (adrOk_iff x m wrap).1 h
    rw [List.nodup_iff_pairwise_ne, List.pairwise_map]
    refine List.Pairwise.imp_of_mem ?_ (List.pairwise_lt_range)
    intro a b ha hb hlt
    simp at ha hb
    cases wrap <;> simp only [burstAt] <;> rcases h3 with rfl | rfl | rfl <;> simp <;> omega

theorem put_word {o d l : Int} (ho : 0 ≤ o ∧ o ≤ 65535) (hd : 0 ≤ d ∧ d ≤ 65535) (hl : 0 ≤ l ∧ l ≤ 3) : 0 ≤ wrdPutZ o d l ∧ wrdPutZ o d l ≤ 65535 := by
  have h1 := (wrdB_iff o).2 ho
  have h2 := (wrdB_iff d).2 hd
  have h3 := (lanB_iff l).2 hl
  rw [wrdPut_ok h1 h2 h3]; exact putW_bd h1 h2
theorem getD_mem {l : List Int} {k : Nat} (h : k < l.length) : l.getD k 0 ∈ l := by rw [List.getD_eq_getElem?_getD, List.getElem?_eq_getElem h]; exact List.getElem_mem _
theorem putN_words {ws all data lanes : List Int} (hw : memOkB ws = true) (hp : ∀ x ∈ all, 0 ≤ x ∧ x ≤ 63) (hd : allIn data 0 65535 = true) (hl : allIn lanes 0 3 = true) (hdl : data.length = all.length) (hll : lanes.length = all.length) : ∀ k, k ≤ all.length → memOkB (putN ws all data lanes k) = true
  | 0, _ => hw
  | k + 1, hk => by
    have ih := putN_words hw hp hd hl hdl hll k (by omega)
    rw [allIn_iff] at hd hl
    have hm := hp _ (getD_mem (show k < all.length by omega))
    have hx := getZ_word ih hm.1 hm.2
    rw [memOk_iff] at ih ⊢
    refine ⟨by rw [putN, put1_len]; exact ih.1, fun x hx' => ?_⟩
    rw [putN, put1] at hx'
    rcases List.mem_or_eq_of_mem_set hx' with h | rfl
    · exact ih.2 x h
    · exact put_word hx (hd _ (getD_mem (by omega))) (hl _ (getD_mem (by omega)))
theorem free1_in {all : List Int} {h : Int} (hh : -1 ≤ h ∧ h ≤ 63) : -1 ≤ free1 all h ∧ free1 all h ≤ 63 := by
  unfold free1; split
  · omega
  · exact hh

theorem reqOk_words {r : Req} (h : reqOkB r = true) (hk : r.kind = 2 ∨ r.kind = 4) : (r.data.length : Int) = r.many ∧ (r.lanes.length : Int) = r.many ∧ allIn r.data 0 65535 = true ∧ allIn r.lanes 0 3 = true := by
  have hw : writesB r = true := by simp [writesB, hk]
  simp only [reqOkB, hw, if_true, reqWordsB, Bool.and_eq_true, decide_eq_true_eq] at h
  exact ⟨h.2.2.1, h.2.2.2.1, h.2.2.2.2.1, h.2.2.2.2.2⟩

/-- what is done leaves a store, and what is held, that are ok -/
theorem atmDo_ok {ms : List Rng} {s : Stt} {who : Int} {r : Req} (h : atmOkB ms s who r = true) : stOkB (atmDo ms s who r).1 = true := by
  obtain ⟨h1, h2, h3, h4, h5, h6⟩ := atmOk_parts h
  obtain ⟨h7, h8, h9⟩ := req_parts h6
  have hs : stOkB s = true := by simp [stOkB, h2, h3, h4]
  have hln := burst_ln h8
  unfold atmDo
  split
  · exact hs
  split
  · exact hs
  split
  · exact hs
  split
  · obtain ⟨b1, b2, b3, b4⟩ := (adrOk_iff _ _ _).1 h8
    rw [stOk_iff] at hs ⊢
    refine ⟨hs.1, by simp [hs.2.1], fun x hx => ?_⟩
    rcases List.mem_or_eq_of_mem_set hx with h | rfl
    · exact hs.2.2 x h
    · omega
  split
  · exact hs
  · rename_i k1 k2 k3 k4 k5
    have hkk : r.kind = 2 ∨ r.kind = 4 := by omega
    obtain ⟨w1, w2, w3, w4⟩ := reqOk_words h6 hkk
    have hm := putN_words h2 (fun x hx => burst_in x hx) w3 w4 (by omega) (by omega) (burst r.addr r.many r.wrap).length (Nat.le_refl _)
    rw [stOk_iff] at hs ⊢
    refine ⟨(memOk_iff _).1 hm, by simp [freeAll, hs.2.1], fun x hx => ?_⟩
    obtain ⟨y, hy, rfl⟩ := List.mem_map.1 hx
    exact free1_in (hs.2.2 y hy)
theorem getAll_words {ws : List Int} (h : memOkB ws = true) {x m : Int} {wrap : Bool} : ∀ y ∈ getAll ws (burst x m wrap), 0 ≤ y ∧ y ≤ 65535 := by
  intro y hy
  obtain ⟨a, ha, rfl⟩ := List.mem_map.1 hy
  have := burst_in a ha
  exact getZ_word h this.1 this.2
theorem atmDo_rsp {ms : List Rng} {s : Stt} {who : Int} {r : Req} (h : atmOkB ms s who r = true) : rspOkB (atmDo ms s who r).2 = true ∧ (atmDo ms s who r).2.id = r.id := by
  obtain ⟨h1, h2, h3, h4, h5, h6⟩ := atmOk_parts h
  obtain ⟨h7, h8, h9⟩ := req_parts h6
  have hle := burst_le r.addr r.many r.wrap
  unfold atmDo
  split
  · exact ⟨by rw [rspOk_iff]; simp; omega, rfl⟩
  split
  · exact ⟨by rw [rspOk_iff]; simp; omega, rfl⟩
  split
  · exact ⟨by rw [rspOk_iff]; exact ⟨by simp; omega, by simp, by simp [getAll_len]; exact hle, getAll_words h2⟩, rfl⟩
  split
  · exact ⟨by rw [rspOk_iff]; exact ⟨by simp; omega, by simp, by simp [getAll_len]; exact hle, getAll_words h2⟩, rfl⟩
  split
  · exact ⟨by rw [rspOk_iff]; simp; omega, rfl⟩
  · refine ⟨?_, rfl⟩
    rw [rspOk_iff]
    refine ⟨by simp; omega, ?_, by simp, by simp⟩
    simp only; split <;> omega

/-- the words put: of an address of the burst, and of others -/
theorem putAll_at {ws all data lanes : List Int} (hp : ∀ x ∈ all, 0 ≤ x ∧ x ≤ 63) (hw : ws.length = 64) (hd : all.Nodup) {b : Int} (hb : 0 ≤ b) (hb1 : b ≤ 63) :
    (b ∉ all ∧ getZ (putAll ws all data lanes) b = getZ ws b) ∨ ∃ i, ∃ h : i < all.length, b = all[i] ∧ getZ (putAll ws all data lanes) b = wrdPutZ (getZ ws b) (data.getD i 0) (lanes.getD i 0) := by
  by_cases h : b ∈ all
  · obtain ⟨i, hi, rfl⟩ := List.mem_iff_getElem.1 h
    exact .inr ⟨i, hi, rfl, putAll_in hp hw hd hi⟩
  · exact .inl ⟨h, putAll_out hp hb (by omega) h⟩
theorem wrdPut_again {o d l : Int} (ho : 0 ≤ o ∧ o ≤ 65535) (hd : 0 ≤ d ∧ d ≤ 65535) (hl : 0 ≤ l ∧ l ≤ 3) : wrdPutZ (wrdPutZ o d l) d l = wrdPutZ o d l := by
  have h0 := put_word ho hd hl
  rw [wrdPut_ok ((wrdB_iff _).2 h0) ((wrdB_iff d).2 hd) ((lanB_iff l).2 hl), wrdPut_ok ((wrdB_iff _).2 ho) ((wrdB_iff d).2 hd) ((lanB_iff l).2 hl)]
  have : l = 0 ∨ l = 1 ∨ l = 2 ∨ l = 3 := by omega
  unfold putW
  rcases this with rfl | rfl | rfl | rfl <;> simp <;> omega
theorem putAll_again {ws all data lanes : List Int} (hw : memOkB ws = true) (hp : ∀ x ∈ all, 0 ≤ x ∧ x ≤ 63) (hn : all.Nodup) (hd : allIn data 0 65535 = true) (hl : allIn lanes 0 3 = true) (hdl : data.length = all.length) (hll : lanes.length = all.length) :
    putAll (putAll ws all data lanes) all data lanes = putAll ws all data lanes := by
  have hw64 := memOk_len hw
  rw [allIn_iff] at hd hl
  refine getZ_ext (by simp [putAll_len]) fun a h0 h1 => ?_
  rw [putAll_len, putAll_len, hw64] at h1
  rcases putAll_at (data := data) (lanes := lanes) hp (show (putAll ws all data lanes).length = 64 by rw [putAll_len]; exact hw64) hn h0 (by omega) with ⟨_, e⟩ | ⟨i, hi, rfl, e⟩
  · exact e
  · rw [e, putAll_in hp hw64 hn hi]
    have hm := hp _ (List.getElem_mem hi)
    exact wrdPut_again (getZ_word hw hm.1 hm.2) (hd _ (getD_mem (by omega))) (hl _ (getD_mem (by omega)))
theorem free1_again {all : List Int} (hp : ∀ x ∈ all, 0 ≤ x ∧ x ≤ 63) (h : Int) : free1 all (free1 all h) = free1 all h := by
  unfold free1
  by_cases hm : h ∈ all
  · rw [if_pos hm]
    by_cases hx : (-1 : Int) ∈ all
    · have := hp _ hx; omega
    · rw [if_neg hx]
  · rw [if_neg hm, if_neg hm]
theorem freeAll_again {hs all : List Int} (hp : ∀ x ∈ all, 0 ≤ x ∧ x ≤ 63) : freeAll (freeAll hs all) all = freeAll hs all := by
  simp only [freeAll, List.map_map]
  exact List.map_congr_left (fun h _ => free1_again hp h)

/-- what comes of something that is ok, case by case -/
theorem atmDo_none {ms : List Rng} {s : Stt} {who : Int} {r : Req} (h : wholeZ ms (burst r.addr r.many r.wrap) < 0) : atmDo ms s who r = (s, ⟨r.id, 4, []⟩) := by
  unfold atmDo; rw [if_pos h]
theorem atmDo_deny {ms : List Rng} {s : Stt} {who : Int} {r : Req} (h : ¬ wholeZ ms (burst r.addr r.many r.wrap) < 0) (hw : (writesB r && onlyAt ms (wholeZ ms (burst r.addr r.many r.wrap))) = true) : atmDo ms s who r = (s, ⟨r.id, 3, []⟩) := by
  unfold atmDo; rw [if_neg h, if_pos hw]
theorem atmDo_read {ms : List Rng} {s : Stt} {who : Int} {r : Req} (h : ¬ wholeZ ms (burst r.addr r.many r.wrap) < 0) (hk : r.kind = 1) : atmDo ms s who r = (s, ⟨r.id, 1, getAll s.words (burst r.addr r.many r.wrap)⟩) := by
  unfold atmDo; rw [if_neg h, if_neg (by simp [writesB, hk]), if_pos hk]
theorem atmDo_hold {ms : List Rng} {s : Stt} {who : Int} {r : Req} (h : ¬ wholeZ ms (burst r.addr r.many r.wrap) < 0) (hk : r.kind = 3) : atmDo ms s who r = (⟨s.words, s.holds.set (atR who r.id).toNat r.addr⟩, ⟨r.id, 2, getAll s.words (burst r.addr r.many r.wrap)⟩) := by
  unfold atmDo; rw [if_neg h, if_neg (by simp [writesB, hk]), if_neg (by omega), if_pos hk]
theorem atmDo_miss {ms : List Rng} {s : Stt} {who : Int} {r : Req} (h : ¬ wholeZ ms (burst r.addr r.many r.wrap) < 0) (hw : ¬ (writesB r && onlyAt ms (wholeZ ms (burst r.addr r.many r.wrap))) = true) (hk : r.kind = 4) (hh : getZ s.holds (atR who r.id) ≠ r.addr) : atmDo ms s who r = (s, ⟨r.id, 1, []⟩) := by
  unfold atmDo; rw [if_neg h, if_neg hw, if_neg (by omega), if_neg (by omega), if_pos ⟨hk, hh⟩]
theorem atmDo_write {ms : List Rng} {s : Stt} {who : Int} {r : Req} (h : ¬ wholeZ ms (burst r.addr r.many r.wrap) < 0) (hw : ¬ (writesB r && onlyAt ms (wholeZ ms (burst r.addr r.many r.wrap))) = true) (hk : r.kind = 2) : atmDo ms s who r = (⟨putAll s.words (burst r.addr r.many r.wrap) r.data r.lanes, freeAll s.holds (burst r.addr r.many r.wrap)⟩, ⟨r.id, 1, []⟩) := by
  unfold atmDo; rw [if_neg h, if_neg hw, if_neg (by omega), if_neg (by omega), if_neg (by omega), if_neg (by omega)]
theorem atmDo_swap {ms : List Rng} {s : Stt} {who : Int} {r : Req} (h : ¬ wholeZ ms (burst r.addr r.many r.wrap) < 0) (hw : ¬ (writesB r && onlyAt ms (wholeZ ms (burst r.addr r.many r.wrap))) = true) (hk : r.kind = 4) (hh : getZ s.holds (atR who r.id) = r.addr) : atmDo ms s who r = (⟨putAll s.words (burst r.addr r.many r.wrap) r.data r.lanes, freeAll s.holds (burst r.addr r.many r.wrap)⟩, ⟨r.id, 2, []⟩) := by
  unfold atmDo; rw [if_neg h, if_neg hw, if_neg (by omega), if_neg (by omega), if_neg (by simp [hh]), if_pos hk]

theorem set_again {l : List Int} {i : Nat} {v : Int} : (l.set i v).set i v = l.set i v := List.set_set ..

/-- FnAtmTwice -/
theorem atm_twice {ms : List Rng} {s : Stt} {who : Int} {r : Req} (h : atmOkB ms s who r = true) (hk4 : r.kind ≠ 4) : atmDo ms (atmDo ms s who r).1 who r = ((atmDo ms s who r).1, (atmDo ms s who r).2) := by
  obtain ⟨h1, h2, h3, h4, h5, h6⟩ := atmOk_parts h
  obtain ⟨h7, h8, h9⟩ := req_parts h6
  by_cases hz : wholeZ ms (burst r.addr r.many r.wrap) < 0
  · rw [atmDo_none hz, atmDo_none hz]
  by_cases hw : (writesB r && onlyAt ms (wholeZ ms (burst r.addr r.many r.wrap))) = true
  · rw [atmDo_deny hz hw, atmDo_deny hz hw]
  have hkk : r.kind = 1 ∨ r.kind = 2 ∨ r.kind = 3 := by omega
  rcases hkk with hk | hk | hk
  · rw [atmDo_read hz hk, atmDo_read hz hk]
  · obtain ⟨w1, w2, w3, w4⟩ := reqOk_words h6 (.inl hk)
    have hln := burst_ln h8
    rw [atmDo_write hz hw hk, atmDo_write hz hw hk]
    simp only [putAll_again h2 (all := burst r.addr r.many r.wrap) (fun x hx => burst_in x hx) (burst_nodup _ _ _) w3 w4 (by omega) (by omega), freeAll_again (all := burst r.addr r.many r.wrap) (fun x hx => burst_in x hx)]
  · rw [atmDo_hold hz hk, atmDo_hold hz hk]
    simp only [set_again]

/-- FnAtmWho -/
theorem atm_who {ms : List Rng} {s : Stt} {who who' id' : Int} {r : Req} (h : atmOkB ms s who r = true) (hk3 : r.kind < 3) :
    atmDo ms s who' { r with id := id' } = ((atmDo ms s who r).1, { (atmDo ms s who r).2 with id := id' }) := by
  obtain ⟨h1, h2, h3, h4, h5, h6⟩ := atmOk_parts h
  obtain ⟨h7, h8, h9⟩ := req_parts h6
  have hwb : writesB { r with id := id' } = writesB r := rfl
  by_cases hz : wholeZ ms (burst r.addr r.many r.wrap) < 0
  · rw [atmDo_none hz, atmDo_none (r := { r with id := id' }) hz]
  by_cases hw : (writesB r && onlyAt ms (wholeZ ms (burst r.addr r.many r.wrap))) = true
  · rw [atmDo_deny hz hw, atmDo_deny (r := { r with id := id' }) hz hw]
  have hkk : r.kind = 1 ∨ r.kind = 2 := by omega
  rcases hkk with hk | hk
  · rw [atmDo_read hz hk, atmDo_read (r := { r with id := id' }) hz hk]
  · rw [atmDo_write hz hw hk, atmDo_write (r := { r with id := id' }) hz hw hk]

/-- FnAtmRead -/
theorem atm_read {ms : List Rng} {s : Stt} {who who' id' : Int} {r q : Req} (h : atmOkB ms s who r = true) (hk : r.kind = 2) (hc : (atmDo ms s who r).2.code = 1)
    (q1 : q.kind = 1) (q2 : q.addr = r.addr) (q3 : q.many = r.many) (q4 : q.wrap = r.wrap) :
    (atmDo ms (atmDo ms s who r).1 who' q).1 = (atmDo ms s who r).1 ∧ (atmDo ms (atmDo ms s who r).1 who' q).2 = ⟨q.id, 1, getAll (putAll s.words (burst r.addr r.many r.wrap) r.data r.lanes) (burst r.addr r.many r.wrap)⟩ := by
  by_cases hz : wholeZ ms (burst r.addr r.many r.wrap) < 0
  · rw [atmDo_none hz] at hc; simp at hc
  by_cases hw : (writesB r && onlyAt ms (wholeZ ms (burst r.addr r.many r.wrap))) = true
  · rw [atmDo_deny hz hw] at hc; simp at hc
  rw [atmDo_write hz hw hk, atmDo_read (r := q) (by rw [q2, q3, q4]; exact hz) q1, q2, q3, q4]
  exact ⟨rfl, rfl⟩
theorem getAll_put {ws data lanes : List Int} (hw : memOkB ws = true) {x m : Int} {wrap : Bool} {k : Nat} (hk : k < (burst x m wrap).length) :
    (getAll (putAll ws (burst x m wrap) data lanes) (burst x m wrap)).getD k 0 = wrdPutZ (getZ ws ((burst x m wrap).getD k 0)) (data.getD k 0) (lanes.getD k 0) := by
  have e : (burst x m wrap).getD k 0 = (burst x m wrap)[k] := by simp [List.getD_eq_getElem?_getD, hk]
  rw [e, ← putAll_in (fun x hx => burst_in x hx) (memOk_len hw) (burst_nodup _ _ _) hk]
  simp [getAll, List.getD_eq_getElem?_getD, hk]

/-! ### what is apart may be done in either order -/
theorem putAll_swap {ws A d l B e m : List Int} (hw : ws.length = 64) (hA : ∀ x ∈ A, 0 ≤ x ∧ x ≤ 63) (hB : ∀ x ∈ B, 0 ≤ x ∧ x ≤ 63) (nA : A.Nodup) (nB : B.Nodup) (hd : ∀ x ∈ A, x ∉ B) :
    putAll (putAll ws A d l) B e m = putAll (putAll ws B e m) A d l := by
  refine getZ_ext (by simp [putAll_len]) fun a h0 h1 => ?_
  simp only [putAll_len, hw] at h1
  have hl1 : (putAll ws A d l).length = 64 := by rw [putAll_len]; exact hw
  have hl2 : (putAll ws B e m).length = 64 := by rw [putAll_len]; exact hw
  by_cases ha : a ∈ A
  · have hb := hd a ha
    obtain ⟨i, hi, rfl⟩ := List.mem_iff_getElem.1 ha
    rw [putAll_out hB h0 (by omega) hb, putAll_in hA hw nA hi, putAll_in hA hl2 nA hi, putAll_out hB h0 (by omega) hb]
  · rw [putAll_out (ws := putAll ws B e m) hA h0 (by omega) ha]
    by_cases hb : a ∈ B
    · obtain ⟨i, hi, rfl⟩ := List.mem_iff_getElem.1 hb
      rw [putAll_in hB hl1 nB hi, putAll_in hB hw nB hi, putAll_out hA h0 (by omega) ha]
    · rw [putAll_out hB h0 (by omega) hb, putAll_out hB h0 (by omega) hb, putAll_out hA h0 (by omega) ha]
theorem getAll_out {ws A B e m : List Int} (hw : ws.length = 64) (hA : ∀ x ∈ A, 0 ≤ x ∧ x ≤ 63) (hB : ∀ x ∈ B, 0 ≤ x ∧ x ≤ 63) (hd : ∀ x ∈ A, x ∉ B) : getAll (putAll ws B e m) A = getAll ws A := by
  unfold getAll
  refine List.map_congr_left fun a ha => ?_
  exact putAll_out hB (hA a ha).1 (by have := hA a ha; omega) (hd a ha)
theorem free1_swap {A B : List Int} (hA : ∀ x ∈ A, 0 ≤ x ∧ x ≤ 63) (hB : ∀ x ∈ B, 0 ≤ x ∧ x ≤ 63) (h : Int) : free1 A (free1 B h) = free1 B (free1 A h) := by
  have n1 : (-1 : Int) ∉ A := fun e => by have := hA _ e; omega
  have n2 : (-1 : Int) ∉ B := fun e => by have := hB _ e; omega
  unfold free1
  by_cases h1 : h ∈ A <;> by_cases h2 : h ∈ B <;> simp [h1, h2, n1, n2]
theorem freeAll_swap {hs A B : List Int} (hA : ∀ x ∈ A, 0 ≤ x ∧ x ≤ 63) (hB : ∀ x ∈ B, 0 ≤ x ∧ x ≤ 63) : freeAll (freeAll hs A) B = freeAll (freeAll hs B) A := by
  simp only [freeAll, List.map_map]
  exact List.map_congr_left (fun h _ => free1_swap hB hA h)
theorem free1_keep {A : List Int} {h : Int} (hn : h ∉ A) : free1 A h = h := by unfold free1; rw [if_neg hn]
theorem freeAll_set {hs A : List Int} {i : Nat} {a : Int} (hn : a ∉ A) : freeAll (hs.set i a) A = (freeAll hs A).set i a := by
  unfold freeAll; rw [List.map_set, free1_keep hn]
theorem getZ_free {hs A : List Int} {i a : Int} (h0 : 0 ≤ i) (h1 : i < hs.length) (hA : ∀ x ∈ A, 0 ≤ x ∧ x ≤ 63) (ha : 0 ≤ a) (hn : a ∉ A) : getZ (freeAll hs A) i = a ↔ getZ hs i = a := by
  obtain ⟨hi, e⟩ := getZ_gets h0 h1
  obtain ⟨hi', e'⟩ := getZ_gets (ws := freeAll hs A) h0 (by rw [freeAll_len]; exact h1)
  rw [e, e']
  simp only [freeAll, List.getElem_map]
  unfold free1
  by_cases hm : hs[i.toNat] ∈ A
  · rw [if_pos hm]
    exact ⟨fun h => by omega, fun h => absurd (h ▸ hm) hn⟩
  · rw [if_neg hm]

/-- what is done: which words are put, which addresses are freed, who holds what -/
inductive Eff where
  | non
  | put (all data lanes : List Int)
  | hold (i : Nat) (a : Int)
def Eff.run : Eff → Stt → Stt
  | .non, s => s
  | .put all d l, s => ⟨putAll s.words all d l, freeAll s.holds all⟩
  | .hold i a, s => ⟨s.words, s.holds.set i a⟩
/-- all that it hangs on: its words, and whether it is held -/
structure Look where
  words : List Int
  held : Bool
def lookOf (s : Stt) (who : Int) (r : Req) : Look := ⟨getAll s.words (burst r.addr r.many r.wrap), decide (getZ s.holds (atR who r.id) = r.addr)⟩
def effOf (ms : List Rng) (k : Look) (who : Int) (r : Req) : Eff × Rsp :=
  if wholeZ ms (burst r.addr r.many r.wrap) < 0 then (.non, ⟨r.id, 4, []⟩)
  else if (writesB r && onlyAt ms (wholeZ ms (burst r.addr r.many r.wrap))) = true then (.non, ⟨r.id, 3, []⟩)
  else if r.kind = 1 then (.non, ⟨r.id, 1, k.words⟩)
  else if r.kind = 3 then (.hold (atR who r.id).toNat r.addr, ⟨r.id, 2, k.words⟩)
  else if r.kind = 4 ∧ k.held = false then (.non, ⟨r.id, 1, []⟩)
  else (.put (burst r.addr r.many r.wrap) r.data r.lanes, ⟨r.id, if r.kind = 4 then 2 else 1, []⟩)
theorem atmDo_eff (ms : List Rng) (s : Stt) (who : Int) (r : Req) : atmDo ms s who r = ((effOf ms (lookOf s who r) who r).1.run s, (effOf ms (lookOf s who r) who r).2) := by
  unfold atmDo effOf lookOf
  simp only [decide_eq_false_iff_not]
  split
  · rfl
  split
  · rfl
  split
  · rfl
  split
  · rfl
  split
  · rfl
  · rfl

/-- an effect of addresses A by places that are not i -/
def Eff.Of (A : List Int) (i : Int) : Eff → Prop
  | .non => True
  | .put all _ _ => all = A
  | .hold j a => a ∈ A ∧ (j : Int) ≠ i ∧ j < 6
theorem effOf_of {ms : List Rng} {k : Look} {who : Int} {r : Req} {i : Int} (h0 : 0 ≤ atR who r.id) (h6 : atR who r.id < 6) (hne : atR who r.id ≠ i) (ha : r.addr ∈ burst r.addr r.many r.wrap) : (effOf ms k who r).1.Of (burst r.addr r.many r.wrap) i := by
  unfold effOf
  split
  · trivial
  split
  · trivial
  split
  · trivial
  split
  · exact ⟨ha, by omega, by omega⟩
  split
  · trivial
  · rfl
theorem burst_hd {x m : Int} {wrap : Bool} (h : adrOkB x m wrap = true) : x ∈ burst x m wrap := by
  obtain ⟨h1, h2, h3, h4⟩ := (adrOk_iff x m wrap).1 h
  rw [burst_ok h]
  refine List.mem_map.2 ⟨0, by simp; omega, ?_⟩
  cases wrap <;> simp only [burstAt] <;> rcases h3 with rfl | rfl | rfl <;> simp <;> omega

theorem look_kept {s : Stt} {e : Eff} {B : List Int} {who : Int} {r : Req} (hs : stOkB s = true) (hB : ∀ x ∈ B, 0 ≤ x ∧ x ≤ 63) (hr : adrOkB r.addr r.many r.wrap = true) (hd : ∀ x ∈ burst r.addr r.many r.wrap, x ∉ B)
    (h0 : 0 ≤ atR who r.id) (h6 : atR who r.id < 6) (he : e.Of B (atR who r.id)) : lookOf (e.run s) who r = lookOf s who r := by
  rw [stOk_iff] at hs
  obtain ⟨⟨hw, _⟩, hh, _⟩ := hs
  have hA := burst_hd hr
  obtain ⟨b1, b2, _⟩ := (adrOk_iff _ _ _).1 hr
  cases e with
  | non => rfl
  | put all d l =>
    have : all = B := he
    subst this
    unfold lookOf Eff.run
    simp only [Look.mk.injEq, decide_eq_decide]
    exact ⟨getAll_out hw (fun x hx => burst_in x hx) hB hd, getZ_free h0 (by omega) hB b1 (hd _ hA)⟩
  | hold j a =>
    obtain ⟨h1, h2, h3⟩ := he
    unfold lookOf Eff.run
    simp only [Look.mk.injEq, decide_eq_decide, true_and]
    have := getZ_set s.holds (a := (j : Int)) (b := atR who r.id) a (by omega) h0 (by omega)
    rw [if_neg (fun e => h2 e.symm)] at this
    simp only [Int.toNat_natCast] at this
    rw [this]

theorem run_swap {s : Stt} {e f : Eff} {A B : List Int} {i j : Int} (hs : stOkB s = true) (hA : ∀ x ∈ A, 0 ≤ x ∧ x ≤ 63) (hB : ∀ x ∈ B, 0 ≤ x ∧ x ≤ 63) (nA : A.Nodup) (nB : B.Nodup) (hd : ∀ x ∈ A, x ∉ B) (he : e.Of A j) (hf : f.Of B i)
    (hei : ∀ k a, e = .hold k a → (k : Int) = i) : f.run (e.run s) = e.run (f.run s) := by
  rw [stOk_iff] at hs
  obtain ⟨⟨hw, _⟩, hh, _⟩ := hs
  cases e with
  | non => rfl
  | put all d l =>
    have : all = A := he
    subst this
    cases f with
    | non => rfl
    | put all' d' l' =>
      have : all' = B := hf
      subst this
      simp only [Eff.run, Stt.mk.injEq]
      exact ⟨putAll_swap hw hA hB nA nB hd, freeAll_swap hA hB⟩
    | hold k a =>
      simp only [Eff.run, Stt.mk.injEq, true_and]
      rw [freeAll_set (fun h => hd a h hf.1)]
  | hold k a =>
    have hk := hei k a rfl
    cases f with
    | non => rfl
    | put all' d' l' =>
      have : all' = B := hf
      subst this
      simp only [Eff.run, Stt.mk.injEq, true_and]
      rw [freeAll_set (hd a he.1)]
    | hold k' a' =>
      simp only [Eff.run, Stt.mk.injEq, true_and]
      exact List.set_comm _ _ (by have := hf.2.1; omega)

/-- FnAtmSwap -/
theorem atm_swap {ms : List Rng} {s : Stt} {who who' : Int} {r q : Req} (h : atmOkB ms s who r = true) (h' : atmOkB ms s who' q = true) (hne : who ≠ who') (hd : ∀ x ∈ burst r.addr r.many r.wrap, x ∉ burst q.addr q.many q.wrap) :
    (atmDo ms (atmDo ms s who r).1 who' q).1 = (atmDo ms (atmDo ms s who' q).1 who r).1 ∧ (atmDo ms (atmDo ms s who r).1 who' q).2 = (atmDo ms s who' q).2 ∧ (atmDo ms (atmDo ms s who' q).1 who r).2 = (atmDo ms s who r).2 := by
  obtain ⟨h1, h2, h3, h4, h5, h6⟩ := atmOk_parts h
  obtain ⟨h7, h8, h9⟩ := req_parts h6
  obtain ⟨_, _, _, _, g5, g6⟩ := atmOk_parts h'
  obtain ⟨g7, g8, g9⟩ := req_parts g6
  have hs : stOkB s = true := by simp [stOkB, h2, h3, h4]
  have i0 : 0 ≤ atR who r.id := by unfold atR; omega
  have i6 : atR who r.id < 6 := by unfold atR; omega
  have j0 : 0 ≤ atR who' q.id := by unfold atR; omega
  have j6 : atR who' q.id < 6 := by unfold atR; omega
  have hij : atR who r.id ≠ atR who' q.id := by unfold atR; omega
  have e1 := effOf_of (ms := ms) (k := lookOf s who r) i0 i6 hij (burst_hd h8)
  have e2 := effOf_of (ms := ms) (k := lookOf s who' q) j0 j6 hij.symm (burst_hd g8)
  have hd' : ∀ x ∈ burst q.addr q.many q.wrap, x ∉ burst r.addr r.many r.wrap := fun x hx hy => hd x hy hx
  have k1 := look_kept (r := q) (who := who') hs (fun x hx => burst_in (x := r.addr) (m := r.many) (wrap := r.wrap) x hx) g8 hd' j0 j6 e1
  have k2 := look_kept (r := r) (who := who) hs (fun x hx => burst_in (x := q.addr) (m := q.many) (wrap := q.wrap) x hx) h8 hd i0 i6 e2
  have hei : ∀ k a, (effOf ms (lookOf s who r) who r).1 = .hold k a → (k : Int) = atR who r.id := by
    intro k a he
    unfold effOf at he
    repeat' split at he
    all_goals first | (cases he; done) | (cases he; omega)
  rw [atmDo_eff ms s who r, atmDo_eff ms s who' q]
  simp only
  rw [atmDo_eff ms _ who' q, atmDo_eff ms _ who r, k1, k2]
  exact ⟨run_swap hs (fun x hx => burst_in x hx) (fun x hx => burst_in x hx) (burst_nodup _ _ _) (burst_nodup _ _ _) hd e1 e2 hei, rfl, rfl⟩

end Go.Proofs.Ytlifkfemdknndaa

namespace Go.Proofs.Ytlifkfemdknndaa
open Go.RowKit
set_option linter.unusedSimpArgs false
set_option linter.unusedVariables false

/-- two results are stored -/
def pairW (W : World) (R8 R9 : Nat) (v0 v1 x0 x1 x2 : Value) : World := ((((W.setCell ⟨R8, 0, none⟩ v0).setCell ⟨R8, 1, none⟩ v1).setCell ⟨R9, 0, none⟩ x0).setCell ⟨R9, 1, none⟩ x1).setCell ⟨R9, 2, none⟩ x2
theorem pair8 {W : World} {R8 R9 : Nat} {o0 o1 : Value} {t : TypeId} (h : W.heap[R8]? = some (.cells #[o0, o1] t (0, 0))) (hne : R8 ≠ R9) (v0 v1 x0 x1 x2 : Value) : (pairW W R8 R9 v0 v1 x0 x1 x2).heap[R8]? = some (.cells #[v0, v1] t (0, 0)) := by
  unfold pairW
  rw [heap_set_ne hne, heap_set_ne hne, heap_set_ne hne]
  exact (heap_set (heap_set h 0 v0) 1 v1).trans rfl
theorem pair9 {W : World} {R8 R9 : Nat} {o0 o1 o2 : Value} {t : TypeId} (h : W.heap[R9]? = some (.cells #[o0, o1, o2] t (0, 0))) (hne : R9 ≠ R8) (v0 v1 x0 x1 x2 : Value) : (pairW W R8 R9 v0 v1 x0 x1 x2).heap[R9]? = some (.cells #[x0, x1, x2] t (0, 0)) := by
  unfold pairW
  have h2 : ((W.setCell ⟨R8, 0, none⟩ v0).setCell ⟨R8, 1, none⟩ v1).heap[R9]? = some (.cells #[o0, o1, o2] t (0, 0)) := by rw [heap_set_ne hne, heap_set_ne hne]; exact h
  exact (heap_set (heap_set (heap_set h2 0 x0) 1 x1) 2 x2).trans rfl
theorem pairK (W : World) (R8 R9 : Nat) (v0 v1 x0 x1 x2 : Value) : Kept (fun k => k = R8 ∨ k = R9) W (pairW W R8 R9 v0 v1 x0 x1 x2) :=
  ((((Kept.setCell (D := fun k => k = R8 ∨ k = R9) (p := ⟨R8, 0, none⟩) _ (.inl rfl) _).trans (Kept.setCell (D := fun k => k = R8 ∨ k = R9) (p := ⟨R8, 1, none⟩) _ (.inl rfl) _)).trans (Kept.setCell (D := fun k => k = R8 ∨ k = R9) (p := ⟨R9, 0, none⟩) _ (.inr rfl) _)).trans (Kept.setCell (D := fun k => k = R8 ∨ k = R9) (p := ⟨R9, 1, none⟩) _ (.inr rfl) _)).trans (Kept.setCell (D := fun k => k = R8 ∨ k = R9) (p := ⟨R9, 2, none⟩) _ (.inr rfl) _)

end Go.Proofs.Ytlifkfemdknndaa
