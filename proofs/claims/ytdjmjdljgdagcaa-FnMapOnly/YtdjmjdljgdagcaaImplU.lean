/-
  ReqSlave of the program: the one range that answers a burst.
-/
import Derived.Test.YtdjmjdljgdagcaaImplT
import Derived.Test.YtdjmjdljgdagcaaImplR
import Derived.Test.YtdjmjdljgdagcaaPureM
import Derived.Test.YtdjmjdljgdagcaaMapC
import Derived.Laws.ResultCell
import Derived.Laws.Rows
namespace Go.Proofs.Ytdjmjdljgdagcaa
open Go.RowKit
set_option linter.unusedSimpArgs false
set_option linter.unusedVariables false

/-- the first range that has them all -/
def rgFirst (ms : List Rng) (l : List Int) : Option Rng := ms.find? (fun g => allInR g l)
def zeroR : Rng := ⟨0, 0, 0, false⟩
def rgZ (ms : List Rng) (l : List Int) : Rng := (rgFirst ms l).getD zeroR
theorem rg_none {ms : List Rng} {l : List Int} {k : Nat} (hk : ms.length ≤ k) (h : rgFirst (ms.take k) l = none) : rgFirst ms l = none := by
  rwa [List.take_of_length_le hk] at h
theorem rg_step {ms : List Rng} {l : List Int} {k : Nat} (hk : k < ms.length) (h : rgFirst (ms.take k) l = none) (hn : allInR ms[k] l = false) : rgFirst (ms.take (k + 1)) l = none := by
  unfold rgFirst at *
  rw [List.take_succ_eq_append_getElem hk, List.find?_append, h]
  simp [hn]
theorem rg_hit {ms : List Rng} {l : List Int} {k : Nat} (hk : k < ms.length) (h : rgFirst (ms.take k) l = none) (hn : allInR ms[k] l = true) : rgFirst ms l = some ms[k] := by
  unfold rgFirst at *
  have e : ms = ms.take k ++ ms[k] :: ms.drop (k + 1) := by
    rw [List.getElem_cons_drop, List.take_append_drop]
  have hn' : (fun g => allInR g l) ms[k] = true := hn
  have e2 : List.find? (fun g => allInR g l) (ms.take k ++ ms[k] :: ms.drop (k + 1)) = some ms[k] := by
    rw [List.find?_append, h, List.find?_cons_of_pos (p := fun g => allInR g l) hn]
    rfl
  rw [← e] at e2
  exact e2

theorem findAt_only {ms : List Rng} (hd : ms.Pairwise (fun a b => rngMeetB a b = false)) {j : Nat} (hj : j < ms.length) {x : Int} (hx : inRngB ms[j] x = true) : findAt ms x 0 = (j : Int) := by
  rcases findAt_spec x ms 0 with ⟨h, h2⟩ | ⟨i, hi, h, _, hin⟩
  · exfalso
    have : ∀ (l : List Rng) (k : Nat), findAt l x k = -1 → ∀ r ∈ l, inRngB r x = false := by
      intro l
      induction l with
      | nil => intro k _ r hr; cases hr
      | cons a l ih =>
        intro k hk r hr
        simp only [findAt] at hk
        by_cases ha : inRngB a x = true
        · rw [if_pos ha] at hk; omega
        · rw [if_neg ha] at hk
          rcases List.mem_cons.1 hr with rfl | hr
          · simpa using ha
          · exact ih _ hk r hr
    have := this ms 0 h ms[j] (List.getElem_mem hj)
    rw [hx] at this; cases this
  · rw [h]
    simp only [Nat.zero_add]
    have hmeet : ∀ a b : Rng, inRngB a x = true → inRngB b x = true → rngMeetB a b = true := by
      intro a b ha hb
      simp [inRngB] at ha hb
      simp [rngMeetB]; omega
    rw [List.pairwise_iff_getElem] at hd
    rcases Nat.lt_trichotomy i j with hij | hij | hij
    · have := hd i j hi hj hij
      rw [hmeet _ _ hin hx] at this; cases this
    · rw [hij]
    · have := hd j i hj hi hij
      rw [hmeet _ _ hx hin] at this; cases this

theorem rg_slave {ms : List Rng} (hok : mapOkB ms = true) {l : List Int} (hl : l ≠ []) : slaveAt ms (wholeZ ms l) = (match rgFirst ms l with | some g => g.sl | none => 3) := by
  have hd := ((mapOk_iff ms).1 hok).2.2
  cases l with
  | nil => exact absurd rfl hl
  | cons a l =>
    cases hf : rgFirst ms (a :: l) with
    | some g =>
      unfold rgFirst at hf
      have hp := List.find?_some hf
      obtain ⟨j, hj, rfl⟩ := List.mem_iff_getElem.1 (List.mem_of_find?_eq_some hf)
      simp only [allInR, List.all_cons, Bool.and_eq_true] at hp
      have e0 := findAt_only hd hj hp.1
      have hall : (l.all fun x => findAt ms x 0 == findAt ms a 0) = true := by
        rw [List.all_eq_true]
        intro x hx
        have := (List.all_eq_true.1 hp.2) x hx
        rw [findAt_only hd hj this, e0]; simp
      have hw : wholeZ ms (a :: l) = (j : Int) := by
        show (if (l.all fun x => findAt ms x 0 == findAt ms a 0) = true then findAt ms a 0 else -1) = _
        rw [if_pos hall, e0]
      rw [hw]
      have h0 : ¬ ((j : Int) < 0) := by omega
      simp [slaveAt, h0, hj]
    | none =>
      rcases whole_range ms (a :: l) with hk | ⟨k, hk, hke⟩
      · rw [hk]; rfl
      · exfalso
        have hw := hke
        simp only [wholeZ] at hw
        by_cases hall : (l.all fun x => findAt ms x 0 == findAt ms a 0) = true
        · rw [if_pos hall] at hw
          have hin : ∀ x, findAt ms x 0 = (k : Int) → inRngB ms[k] x = true := by
            intro x hx
            rcases findAt_spec x ms 0 with ⟨h, _⟩ | ⟨i, hi, h, _, hin⟩
            · omega
            · have : i = k := by omega
              subst this; exact hin
          have : allInR ms[k] (a :: l) = true := by
            simp only [allInR, List.all_cons, Bool.and_eq_true]
            refine ⟨hin a hw, ?_⟩
            rw [List.all_eq_true]
            intro x hx
            have := (List.all_eq_true.1 hall) x hx
            exact hin x (by simp at this; omega)
          unfold rgFirst at hf
          have := List.find?_eq_none.1 hf ms[k] (List.getElem_mem hk)
          simp_all
        · rw [if_neg hall] at hw; omega

theorem results_row_tmp {P : Program} {fn : Func} {p u : Tmp} {ty : TypeId} (h : fn.results = #[.cell p ty, .tmp u]) (tmps : Array Value) (w : World) (g : Nat) (t : TypeId) (cs : Array Value) (fr : Nat × Nat) (d : TypeDesc)
    (hp : tmps.getD p undef = .pointer (some ⟨g, 0, none⟩)) (hg : w.heap[g]? = some (.cells cs t fr))
    (hu : P.underlying ty = some d) (hd : (match d with | .struct _ | .array _ _ => true | _ => false) = true) (hi : (P.info? ty).map (·.size) = some cs.size) :
    (results fn tmps).run P w = .ok (.tuple #[.agg cs, tmps.getD u undef]) w := by
  rw [results_cell_tmp h, hp]
  simp [asAddr, run_loadVar_row w g t ty cs fr d hg hu hd hi, Result.andThen]

theorem setQ4 {w : World} {b : Nat} {o0 o1 o2 o3 v0 v1 v2 v3 : Value} {t : TypeId} (h : w.heap[b]? = some (.cells #[o0, o1, o2, o3] t (0, 0))) :
    ((((w.setCell ⟨b, 0, none⟩ v0).setCell ⟨b, 1, none⟩ v1).setCell ⟨b, 2, none⟩ v2).setCell ⟨b, 3, none⟩ v3).heap[b]? = some (.cells #[v0, v1, v2, v3] t (0, 0)) :=
  heap_set (heap_set (heap_set (heap_set h 0 v0) 1 v1) 2 v2) 3 v3
theorem belowQ4 {M : Nat} {w w1 : World} {b : Nat} {v0 v1 v2 v3 : Value} (h : Below M w w1) (hb : M ≤ b) : Below M w ((((w1.setCell ⟨b, 0, none⟩ v0).setCell ⟨b, 1, none⟩ v1).setCell ⟨b, 2, none⟩ v2).setCell ⟨b, 3, none⟩ v3) :=
  (((h.setCell (p := ⟨b, 0, none⟩) hb v0).setCell (p := ⟨b, 1, none⟩) hb v1).setCell (p := ⟨b, 2, none⟩) hb v2).setCell (p := ⟨b, 3, none⟩) hb v3

set_option maxRecDepth 100000 in
set_option maxHeartbeats 1000000 in
theorem reqRange_any (a : Option Addr) (cap : Nat) (ms : List Rng) (r : Req) (pd pl : Option Addr) (cd cl : Nat) (w : World) (hm : RowOf w a ms) (hc : ms.length ≤ cap) (hc' : cap ≤ 9223372036854775807) (hok : adrOkB r.addr r.many r.wrap = true) :
    Calls Try.prog 58 #[.slice a ms.length cap, reqV r pd cd pl cl] w fun e w' => e = .returned (.tuple #[(rgZ ms (burst r.addr r.many r.wrap)).val, .bool (rgFirst ms (burst r.addr r.many r.wrap)).isSome]) ∧ Below w.heap.size w w' := by
  have HI := Hid.intro (fun g W => isIn_req r pd pl cd cl g W hok)
  obtain ⟨l, hl⟩ : ∃ l, l = burst r.addr r.many r.wrap := ⟨_, rfl⟩
  rw [← hl] at HI ⊢
  clear hl hok
  have HM := Hid.intro hm
  clear hm
  unfold reqV at HI ⊢
  go_enter Try.func58, Try.ntmps58
  go_wp2
  go_loopw [10] (fun i wr => ∃ k : Nat, k ≤ ms.length ∧ i = .int .i64 k ∧ Below w.heap.size w wr ∧ wr.heap[w.heap.size]? = some (.cells #[.int .i64 r.id, .int .i64 r.kind, .int .i64 r.addr, .int .i64 r.many, .bool r.wrap, .slice pd r.data.length cd, .slice pl r.lanes.length cl] 33 (0, 0)) ∧ wr.heap[w.heap.size + 1]? = some (.cells #[.int .i64 0, .int .i64 0, .int .i64 0, .bool false] 43 (0, 0)) ∧ Hid (rgFirst (ms.take k) l = none)) (fun i _ => ms.length - (intOf i).toNat)
  case atStart =>
    refine ⟨0, Nat.zero_le _, rfl, ((Below.refl _ w).alloc (Nat.le_refl _) _).alloc (by simp) _, ?_, ?_, rfl⟩
    · exact (Below.heap_alloc _ _ _ (by simp)).trans (heap_new _ _)
    · have := heap_new (w.alloc (.cells #[.int .i64 r.id, .int .i64 r.kind, .int .i64 r.addr, .int .i64 r.many, .bool r.wrap, .slice pd r.data.length cd, .slice pl r.lanes.length cl] 33)) (.cells #[.int .i64 0, .int .i64 0, .int .i64 0, .bool false] 43)
      rwa [World.size_alloc] at this
  case round =>
    obtain ⟨k, hk, rfl, hbl, hq, hz, HF⟩ := hrel
    have hqlt := heap_lt hq
    have hzlt := heap_lt hz
    by_cases hlt : k < ms.length
    · rcases HM.out with hx | ⟨b, off, rfl, hb, hcells⟩
      · subst hx; simp at hlt
      obtain ⟨g0, g1, g2, g3⟩ := hcells k hlt
      have c0 := (hbl.cell (p := ⟨b, off + k * 4, none⟩) hb).trans g0
      have c1 := (hbl.cell (p := ⟨b, off + k * 4 + 1, none⟩) hb).trans g1
      have c2 := (hbl.cell (p := ⟨b, off + k * 4 + 2, none⟩) hb).trans g2
      have c3 := (hbl.cell (p := ⟨b, off + k * 4 + 3, none⟩) hb).trans g3
      have q0 : wr.cell? ⟨w.heap.size, 0, none⟩ = _ := (heap_cell hq 0).trans rfl
      have q1 : wr.cell? ⟨w.heap.size, 1, none⟩ = _ := (heap_cell hq 1).trans rfl
      have q2 : wr.cell? ⟨w.heap.size, 2, none⟩ = _ := (heap_cell hq 2).trans rfl
      have q3 : wr.cell? ⟨w.heap.size, 3, none⟩ = _ := (heap_cell hq 3).trans rfl
      have q4 : wr.cell? ⟨w.heap.size, 4, none⟩ = _ := (heap_cell hq 4).trans rfl
      have q5 : wr.cell? ⟨w.heap.size, 5, none⟩ = _ := (heap_cell hq 5).trans rfl
      have q6 : wr.cell? ⟨w.heap.size, 6, none⟩ = _ := (heap_cell hq 6).trans rfl
      clear g0 g1 g2 g3 hcells
      have hs := hbl.size
      go_wp2_with fail
      refine (HI.out ms[k] _).mono ?_
      rintro e w1 ⟨rfl, hb1⟩
      have hs1 := hb1.size
      simp at hs1
      have hq1 := (hb1.block _ (by simp; omega)).trans ((Below.heap_alloc _ _ _ hqlt).trans hq)
      have hz1 := (hb1.block _ (by simp; omega)).trans ((Below.heap_alloc _ _ _ hzlt).trans hz)
      have hn1 := (hb1.block wr.heap.size (by simp)).trans (heap_new _ _)
      have hbl1 : Below w.heap.size w w1 := (hbl.alloc hs _).trans (hb1.mono (by simp; omega))
      clear hb1 c0 c1 c2 c3 q0 q1 q2 q3 q4 q5 q6
      cases hin : allInR ms[k] l
      · have HN := Hid.intro (rg_step hlt HF.out hin)
        go_wp2
        go_roundw
        case rel => exact ⟨k + 1, by omega, by go_num, hbl1, hq1, hz1, HN⟩
        case measure => simp [intOf]; omega
      · have HN := Hid.intro (rg_hit hlt HF.out hin)
        have n0 : w1.cell? ⟨wr.heap.size, 0, none⟩ = some (.int .i64 ms[k].fr) := (heap_cell hn1 0).trans rfl
        have n1 : w1.cell? ⟨wr.heap.size, 1, none⟩ = some (.int .i64 ms[k].tt) := (heap_cell hn1 1).trans rfl
        have n2 : w1.cell? ⟨wr.heap.size, 2, none⟩ = some (.int .i64 ms[k].sl) := (heap_cell hn1 2).trans rfl
        have n3 : w1.cell? ⟨wr.heap.size, 3, none⟩ = some (.bool ms[k].only) := (heap_cell hn1 3).trans rfl
        have z0 : w1.cell? ⟨w.heap.size + 1, 0, none⟩ = some (.int .i64 0) := (heap_cell hz1 0).trans rfl
        have z1 : w1.cell? ⟨w.heap.size + 1, 1, none⟩ = some (.int .i64 0) := (heap_cell hz1 1).trans rfl
        have z2 : w1.cell? ⟨w.heap.size + 1, 2, none⟩ = some (.int .i64 0) := (heap_cell hz1 2).trans rfl
        have z3 : w1.cell? ⟨w.heap.size + 1, 3, none⟩ = some (.bool false) := (heap_cell hz1 3).trans rfl
        have f0 := heap_free hz1 0
        have f1 := heap_free hz1 1
        have f2 := heap_free hz1 2
        have f3 := heap_free hz1 3
        go_wp2
        refine bodyPost_ret (results_row_tmp rfl _ _ (w.heap.size + 1) _ _ _ _ rfl (setQ4 hz1) Try.underlying43 rfl (by kernel_rfl)) rfl ⟨?_, belowQ4 hbl1 (by omega)⟩
        rw [rgZ, HN.out]
        rfl
    · have HN := Hid.intro (rg_none (show ms.length ≤ k by omega) HF.out)
      have z0 : wr.cell? ⟨w.heap.size + 1, 0, none⟩ = some (.int .i64 0) := (heap_cell hz 0).trans rfl
      have z1 : wr.cell? ⟨w.heap.size + 1, 1, none⟩ = some (.int .i64 0) := (heap_cell hz 1).trans rfl
      have z2 : wr.cell? ⟨w.heap.size + 1, 2, none⟩ = some (.int .i64 0) := (heap_cell hz 2).trans rfl
      have z3 : wr.cell? ⟨w.heap.size + 1, 3, none⟩ = some (.bool false) := (heap_cell hz 3).trans rfl
      have f0 := heap_free hz 0
      have f1 := heap_free hz 1
      have f2 := heap_free hz 2
      have f3 := heap_free hz 3
      go_wp2
      refine bodyPost_ret (results_row_tmp rfl _ _ (w.heap.size + 1) _ _ _ _ rfl (setQ4 hz) Try.underlying43 rfl (by kernel_rfl)) rfl ⟨?_, belowQ4 hbl (by omega)⟩
      rw [rgZ, HN.out]
      rfl

theorem req_adr {r : Req} (h : reqOkB r = true) : adrOkB r.addr r.many r.wrap = true := by
  simp [reqOkB, reqHeadB] at h
  exact h.1.2.2
theorem burst_ne {a m : Int} {wrap : Bool} (h : adrOkB a m wrap = true) : burst a m wrap ≠ [] := by
  obtain ⟨_, _, h3, _⟩ := (adrOk_iff a m wrap).1 h
  rw [burst_ok h]
  intro e
  have := congrArg List.length e
  simp at this
  omega
theorem slave_rg {ms : List Rng} {r : Req} (h1 : mapOkB ms = true) (h2 : reqOkB r = true) : reqSlaveZ ms r = (match rgFirst ms (burst r.addr r.many r.wrap) with | some g => g.sl | none => 3) := by
  rw [← rg_slave h1 (burst_ne (req_adr h2))]
  simp [reqSlaveZ, h1, h2]

set_option maxRecDepth 100000 in
set_option maxHeartbeats 1000000 in
theorem impl_ReqSlave : ReqSlaveC := by
  intro a cap ms r pd pl cd cl w hm hc hc' h
  have hbl : ∀ o, Below w.heap.size w (w.alloc o) := fun o => (Below.refl _ w).alloc (Nat.le_refl _) o
  have HQ := Hid.intro (fun W h => impl_ReqOk r pd pl cd cl W h)
  have HG := Hid.intro (fun W h1 h2 => reqRange_any a cap ms r pd pl cd cl W h1 hc hc' h2)
  have HM := Hid.intro hm
  have HA := Hid.intro h
  clear hm h
  unfold reqV at HG HQ ⊢
  go_enter Try.func24, Try.ntmps24
  go_wp2_with fail
  refine (impl_MapOk a cap ms _ (HM.out.below (hbl _)) hc hc').mono ?_
  rintro e w1 ⟨rfl, hb1⟩
  obtain ⟨c0, c1, c2, c3, c4, c5, c6⟩ := box7 hb1
  have hs1 := hb1.size
  simp at hs1
  have hb1' := (hbl _).trans (hb1.mono (hbl _).size)
  clear hb1
  cases hok : mapOkB ms
  · have HN := Hid.intro (slave_no (ms := ms) (r := r) (.inl hok))
    go_wp2
    go_ret
    exact ⟨by rw [HN.out]; rfl, hb1'⟩
  go_wp2_with fail
  refine (HQ.out w1 (HA.out.below hb1')).mono ?_
  rintro e w2 ⟨rfl, hb2⟩
  have hs2 := hb2.size
  have hlt : w.heap.size < w1.heap.size := by omega
  have d0 := (hb2.cell (p := ⟨w.heap.size, 0, none⟩) hlt).trans c0
  have d1 := (hb2.cell (p := ⟨w.heap.size, 1, none⟩) hlt).trans c1
  have d2 := (hb2.cell (p := ⟨w.heap.size, 2, none⟩) hlt).trans c2
  have d3 := (hb2.cell (p := ⟨w.heap.size, 3, none⟩) hlt).trans c3
  have d4 := (hb2.cell (p := ⟨w.heap.size, 4, none⟩) hlt).trans c4
  have d5 := (hb2.cell (p := ⟨w.heap.size, 5, none⟩) hlt).trans c5
  have d6 := (hb2.cell (p := ⟨w.heap.size, 6, none⟩) hlt).trans c6
  have hb2' := hb1'.trans (hb2.mono hb1'.size)
  clear hb2 c0 c1 c2 c3 c4 c5 c6 hb1' HQ
  cases hrq : reqOkB r
  · have HN := Hid.intro (slave_no (ms := ms) (r := r) (.inr hrq))
    go_wp2
    go_ret
    exact ⟨by rw [HN.out]; rfl, hb2'⟩
  have HN := Hid.intro (slave_rg hok hrq)
  go_wp2_with fail
  refine (HG.out w2 (HM.out.below hb2') (req_adr hrq)).mono ?_
  rintro e w3 ⟨rfl, hb3⟩
  have hb3' := hb2'.trans (hb3.mono hb2'.size)
  clear hb3 d0 d1 d2 d3 d4 d5 d6 HG
  unfold Rng.val
  cases hf : rgFirst ms (burst r.addr r.many r.wrap) with
  | none =>
    rw [hf] at HN
    simp only [Option.isSome_none]
    go_wp2
    go_ret
    exact ⟨by rw [HN.out]; rfl, hb3'.alloc hb3'.size _⟩
  | some g =>
    have HZ := Hid.intro (show rgZ ms (burst r.addr r.many r.wrap) = g by rw [rgZ, hf]; rfl)
    rw [hf] at HN
    rw [HZ.out]
    simp only [Option.isSome_some]
    go_wp2
    go_ret
    exact ⟨by rw [HN.out]; rfl, hb3'.alloc hb3'.size _⟩

end Go.Proofs.Ytdjmjdljgdagcaa
