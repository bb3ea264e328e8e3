/-
  spec's l20Rsp and DrawRspOk: whatever the code, a value of what comes of something, its words in memory of its own; nothing that was there has turned but the reader.
-/
import Derived.Test.YtdjmjdljgdagcaaProg
import Derived.Test.YtdjmjdljgdagcaaVBox
import Derived.Test.YtdjmjdljgdagcaaReqS
namespace Go.Proofs.Ytdjmjdljgdagcaa
open Go.RowKit
set_option linter.unusedSimpArgs false
set_option linter.unusedVariables false

/-- what l20Rsp leaves -/
def RspPost (B p : Nat) (w : World) (v : Value) (w' : World) : Prop := ∃ (r : Rsp) (pd : Option Addr) (c : Nat) (p' : Nat), v = rspV r pd c ∧ RspAt w' r pd c ∧ r.data.length ≤ 10 ∧ Rd w' B p' ∧ p' ≤ p + 8000 ∧ Keep B w w' ∧ (∀ b off, pd = some ⟨b, off, none⟩ → w.heap.size ≤ b)

theorem rsp_post {B Mb R p p0 : Nat} {zs : Array Value} {w0 w : World} {id code : Int} {v : Value} (h : VB B Mb R p #[.int .i64 id, .int .i64 code, v] zs 46 w0 w) (hv : kIR w0.heap.size 10 w v) (hp : p ≤ p0 + 8000) :
    RspPost B p0 w0 (.agg #[.int .i64 id, .int .i64 code, v]) (((w.setCell ⟨R, 0, none⟩ (.int .i64 id)).setCell ⟨R, 1, none⟩ (.int .i64 code)).setCell ⟨R, 2, none⟩ v) := by
  obtain ⟨q, h1, h2⟩ := h.rd
  obtain ⟨pd, xs, cap, rfl, hi, hN, hc, hc', hnew⟩ := hv.ints
  have hB := h.hB
  have hR := h.newR
  have hne : ∀ k, k ≠ R → (((w.setCell ⟨R, 0, none⟩ (.int .i64 id)).setCell ⟨R, 1, none⟩ (.int .i64 code)).setCell ⟨R, 2, none⟩ (.slice pd xs.length cap)).heap[k]? = w.heap[k]? := fun k hk => (heap_set_ne hk).trans ((heap_set_ne hk).trans (heap_set_ne hk))
  refine ⟨⟨id, code, xs⟩, pd, cap, q, rfl, ⟨?_, hc, hc'⟩, hN, ?_, by omega, ?_, hnew⟩
  · rcases hv with hv | ⟨g, n, cap', e, _, _, _, hPI⟩
    · simp at hv
      exact .inl (List.eq_nil_of_length_eq_zero (by simp [hv.2.1]))
    · cases e
      refine hi.of (by simp) (fun b off e hlt => hne b (fun eb => ?_))
      cases e
      subst eb
      obtain ⟨cur, e1, _⟩ := hPI
      rw [h.res] at e1
      cases e1
  · exact ((h2.other (x := ⟨R, 0, none⟩) (by simp; omega) _).other (x := ⟨R, 1, none⟩) (by simp; omega) _).other (x := ⟨R, 2, none⟩) (by simp; omega) _
  · exact ((h.keep.setCell (p := ⟨R, 0, none⟩) (.inr h.newR) _).setCell (p := ⟨R, 1, none⟩) (.inr h.newR) _).setCell (p := ⟨R, 2, none⟩) (.inr h.newR) _

theorem alloc4 {w : World} {o : Obj} {M R i : Nat} {a b c d : Value} (hM : M < w.heap.size) (hR : R < w.heap.size) :
    ((((w.alloc o).setCell ⟨M, i, none⟩ a).setCell ⟨R, 0, none⟩ b).setCell ⟨R, 1, none⟩ c).setCell ⟨R, 2, none⟩ d = ((((w.setCell ⟨M, i, none⟩ a).setCell ⟨R, 0, none⟩ b).setCell ⟨R, 1, none⟩ c).setCell ⟨R, 2, none⟩ d).alloc o := by
  rw [World.setCell_alloc_past _ _ _ _ hM, World.setCell_alloc_past _ _ _ _ (by simpa using hR), World.setCell_alloc_past _ _ _ _ (by simpa using hR), World.setCell_alloc_past _ _ _ _ (by simpa using hR)]

/-- the result's cells behind the last stores -/
theorem rsp_res {B Mb R p : Nat} {cs : Array Value} {w0 w : World} {a b c : Value} (h : VB B Mb R p cs #[.int .i64 0, .int .i64 0, .slice none 0 0] 46 w0 w) :
    (((w.setCell ⟨R, 0, none⟩ a).setCell ⟨R, 1, none⟩ b).setCell ⟨R, 2, none⟩ c).cell? ⟨R, 0, none⟩ = some a ∧ (((w.setCell ⟨R, 0, none⟩ a).setCell ⟨R, 1, none⟩ b).setCell ⟨R, 2, none⟩ c).cell? ⟨R, 1, none⟩ = some b ∧ (((w.setCell ⟨R, 0, none⟩ a).setCell ⟨R, 1, none⟩ b).setCell ⟨R, 2, none⟩ c).cell? ⟨R, 2, none⟩ = some c := by
  have hf : (((w.setCell ⟨R, 0, none⟩ a).setCell ⟨R, 1, none⟩ b).setCell ⟨R, 2, none⟩ c).heap[R]? = some (.cells #[a, b, c] 46 (0, 0)) := by
    have := heap_set (heap_set (heap_set h.res 0 a) 1 b) 2 c
    simpa using this
  exact ⟨heap_cell hf 0, heap_cell hf 1, heap_cell hf 2⟩

set_option maxRecDepth 100000 in
set_option maxHeartbeats 2000000 in
theorem l20Rsp_any (B p : Nat) (n : Int) (w : World) (h : Rd w B p) (hp : p ≤ 50000) (hn : 1 ≤ n) (hn' : n ≤ 8999) :
    Calls Try.prog 63 #[.pointer (some ⟨B, 0, none⟩), .int .i64 n] w fun e w' => ∃ v, e = .returned v ∧ RspPost B p w v w' := by
  have hB := h.lt
  go_enter Try.func63, Try.ntmps63
  go_wp2_with fail
  refine (pick_at (h.alloc _) (by omega) 2 (by omega) (by omega)).mono ?_
  rintro e w1 ⟨id, hi0, hi1, rfl, hr1, hK1⟩
  go_wp2_with fail
  refine (pick_at hr1 (by omega) 4 (by omega) (by omega)).mono ?_
  rintro e w2 ⟨cd, hc0, hc1, rfl, hr2, hK2⟩
  have hKK := hK1.trans hK2
  have hs2 := hKK.size
  simp at hs2
  have hres : w2.heap[w.heap.size]? = some (.cells #[.int .i64 0, .int .i64 0, .slice none 0 0] 46 (0, 0)) := (hKK.block w.heap.size (by simp) (by omega)).trans (by show (w.heap.push _)[w.heap.size]? = _; simp)
  have hkeep : Keep B w w2 := ((Keep.refl B w).alloc _).trans hKK
  obtain ⟨R, hR⟩ : ∃ R, R = w.heap.size := ⟨_, rfl⟩
  rw [← hR] at hres ⊢
  have hRlt : R < w2.heap.size := by omega
  have hRge : w.heap.size ≤ R := by omega
  have hvb : VB B w2.heap.size R (p + 2) #[.int .i64 id, .int .i64 (1 + cd), .slice none 0 0] #[.int .i64 0, .int .i64 0, .slice none 0 0] 46 w (w2.alloc (.cells #[.int .i64 id, .int .i64 (1 + cd), .slice none 0 0] 46)) :=
    ⟨⟨p + 1 + 1, by omega, hr2.alloc _⟩, hkeep.alloc _, by show (w2.heap.push _)[w2.heap.size]? = _; simp, (Below.heap_alloc _ _ _ hRlt).trans hres, hB, by omega, by omega, by omega⟩
  clear hR hres hkeep hKK hK1 hK2 hr1 hr2 hs2
  go_wp2_with fail
  obtain ⟨Mb, hMb⟩ : ∃ Mb, Mb = w2.heap.size := ⟨_, rfl⟩
  rw [← hMb] at hvb ⊢
  clear hMb hRlt hRge
  obtain ⟨w3, hw3⟩ : ∃ w3, w3 = w2.alloc (.cells #[.int .i64 id, .int .i64 (1 + cd), .slice none 0 0] 46) := ⟨_, rfl⟩
  rw [← hw3] at hvb ⊢
  clear hw3
  refine (pick_vb hvb (by omega) 5 (by omega) (by omega)).mono ?_
  rintro e w4 ⟨k, hk0, hk1, rfl, hvb4, _⟩
  obtain ⟨k, rfl⟩ := Int.eq_ofNat_of_zero_le hk0
  obtain ⟨code, hcode⟩ : ∃ code, code = 1 + cd := ⟨_, rfl⟩
  rw [← hcode] at hvb4 ⊢
  clear hvb hcode hc0 hc1
  go_wp2_with fail
  go_loopw [6] (fun i wr => ∃ (j : Nat) (v : Value), j ≤ 4 ∧ i = .int .i64 j ∧ VB B Mb R (p + 100 + 400 * (4 - j)) #[.int .i64 id, .int .i64 code, v] #[.int .i64 0, .int .i64 0, .slice none 0 0] 46 w wr ∧ kIR w.heap.size (4 - j) wr v) (fun i _ => (intOf i).toNat)
  case atStart => exact ⟨k, _, by omega, rfl, hvb4.le (by omega), .inl rfl⟩
  case round =>
    clear hvb4
    obtain ⟨j, v, hj, rfl, hvb, hv⟩ := hrel
    obtain ⟨P, hP⟩ : ∃ P, P = p + 100 + 400 * (4 - j) := ⟨_, rfl⟩
    rw [← hP] at hvb
    by_cases hj0 : 0 < j
    · have hI : (0 : Int) < (j : Int) := by omega
      go_wp2_with fail
      have hsz := hvb.keep.size
      have hlB : B < wr.heap.size := by omega
      have hX : ∀ w1 w2, RI w.heap.size w1 w2 → kIR w.heap.size (4 - j) w1 v → kIR w.heap.size (4 - j) w2 v := fun _ _ hr h => h.ri hr
      have hold : ∀ g n cap, v = .slice (some ⟨g, 0, none⟩) n cap → g < wr.heap.size := fun g n cap e => by
        rcases hv with h | ⟨g', n', c', e', _, _, _, hp⟩
        · rw [h] at e; cases e
        · rw [e'] at e; cases e; exact hp.lt
      refine wp_region_then (by kernel_rfl) (RR wr.heap.size w.heap.size)
        (VC B Mb R P #[.int .i64 id, .int .i64 code, v] #[.int .i64 0, .int .i64 0, .slice none 0 0] 46 w (fun W => kIR w.heap.size (4 - j) W v) wr.heap.size)
        (tab [(19, kIs (.pointer (some ⟨Mb, 2, none⟩))), (20, kIs v), (21, kIs (.pointer (some ⟨B, 0, none⟩))), (22, kInt 0 299), (23, kRow wr.heap.size 1 0 299), (24, kIR w.heap.size (4 - j + 1)), (25, kIs (.pointer (some ⟨Mb, 2, none⟩)))])
        7 _ [19, 20, 21, 22, 23, 24, 25] rfl rfl (by kernel_rfl) (by kernel_rfl) rfl (by kernel_rfl) ?_ ?_ ?_ ?_
      · refine tabR_stable ?_
        intro x hx
        simp at hx
        rcases hx with rfl | rfl | rfl | rfl | rfl | rfl | rfl
        all_goals intro w1 w2 u hr hu
        all_goals first | exact hu | exact stable_row _ _ _ _ _ _ _ hr.1 hu | exact kIR.ri hu hr.2
      · exact ⟨hvb.drew, hv, Nat.le_refl _⟩
      · refine ops_cons (gd rfl <| tx_pure rfl rfl (fun k W h => h.next) (RR.refl _ _) (fun i ρ W hat hW => ?_)) ?_
        · have e2 := hat.out 5 (by kernel_rfl)
          simp [Act.eval] at e2
          simp only [execOp, e2]; go_simp
        refine ops_cons (gd rfl <| tx_pure rfl rfl (fun k W h => h.next) (RR.refl _ _) (fun i ρ W hat hW => ?_)) ?_
        · have e2 : ρ (.tmp 19) = _ := hat.dep 19 (by kernel_rfl)
          have e1 : W.cell? ⟨Mb, 2, none⟩ = some v := heap_cell hW.1.box 2
          simp only [execOp, e2]; go_simp
        refine ops_cons (gd rfl <| ty_move_out (.inl rfl) rfl (by kernel_rfl) rfl (fun k W h => h.next) (RR.refl _ _)) ?_
        refine ops_cons (gd rfl <| vc_pick hX hsz rfl rfl (by kernel_rfl) rfl rfl (by decide) (by decide) (by simp; omega)) ?_
        refine ops_cons (gd rfl <| vc_build hX rfl rfl (fun ρ W hat => ?_)) ?_
        · obtain ⟨x, ex, lx, ux⟩ : kInt 0 299 W (ρ (.tmp 22)) := hat.dep 22 (by kernel_rfl)
          exact ⟨[x], rfl, by simp; omega, by simp only [execOp, ex]; go_simp⟩
        refine ops_cons (gd rfl <| vc_app hX (fun _ h => h) (by decide) hsz rfl rfl (by kernel_rfl) (by kernel_rfl) rfl rfl rfl (by omega) hold) ?_
        refine ops_cons (gd rfl <| tx_pure rfl rfl (fun k W h => h.next) (RR.refl _ _) (fun i ρ W hat hW => ?_)) ?_
        · have e2 := hat.out 5 (by kernel_rfl)
          simp [Act.eval] at e2
          simp only [execOp, e2]; go_simp
        exact ops_nil
      · intro f W hW hf
        have e25 : f 25 = .pointer (some ⟨Mb, 2, none⟩) := hf 25 (by simp)
        have e24 : kIR w.heap.size (4 - j + 1) W (f 24) := hf 24 (by simp)
        clear hf
        have hvb2 : VB B Mb R (P + 280) #[.int .i64 id, .int .i64 code, f 24] #[.int .i64 0, .int .i64 0, .slice none 0 0] 46 w (W.setCell ⟨Mb, 2, none⟩ (f 24)) := by simpa using hW.1.set 2 (f 24)
        have hv2 : kIR w.heap.size (4 - j + 1) (W.setCell ⟨Mb, 2, none⟩ (f 24)) (f 24) := e24.ri (hW.1.ri_set (by decide) _ _)
        obtain ⟨pd, xs, cap, e, _⟩ := e24.ints
        have c2 : W.cell? ⟨Mb, 2, none⟩ = some v := heap_cell hW.1.box 2
        have f2 : W.frozen? ⟨Mb, 2, none⟩ = false := heap_free hW.1.box 2
        rw [e] at hvb2 hv2
        have HV := Hid.intro hvb2
        have HK := Hid.intro hv2
        clear hvb hvb2 hv hv2 hW e24 hX hold
        simp only [fill, e25, e]
        go_simp
        go_wp2
        go_roundw
        case rel => exact ⟨j - 1, _, by omega, by go_num, HV.out.le (by omega), HK.out.mono (by omega)⟩
        case measure => simp [intOf]; omega
    · have hj' : j = 0 := by omega
      subst hj'
      have hP' : P ≤ p + 1700 := by omega
      clear hP hj
      go_wp2_with fail
      refine (odd_vb hvb (by omega) n hn hn').mono ?_
      rintro e w5 ⟨bo, rfl, hvb5, hK5⟩
      have hv5 := hv.ri (ri_keep hB hK5)
      clear hvb hv hK5
      obtain ⟨pd, xs, cap, e5, _⟩ := hv5.ints
      cases bo
      · rw [e5] at hvb5 hv5
        obtain ⟨r0, r1, r2⟩ := rsp_res (a := .int .i64 id) (b := .int .i64 code) (c := (.slice pd xs.length cap)) hvb5
        have HP := Hid.intro (rsp_post (p0 := p) hvb5 (hv5.mono (by omega)) (by omega))
        have c0 : w5.cell? ⟨Mb, 0, none⟩ = some (.int .i64 id) := heap_cell hvb5.box 0
        have c1 : w5.cell? ⟨Mb, 1, none⟩ = some (.int .i64 code) := heap_cell hvb5.box 1
        have c2 : w5.cell? ⟨Mb, 2, none⟩ = some (.slice pd xs.length cap) := heap_cell hvb5.box 2
        have q0 : w5.cell? ⟨R, 0, none⟩ = some (.int .i64 0) := heap_cell hvb5.res 0
        have q1 : w5.cell? ⟨R, 1, none⟩ = some (.int .i64 0) := heap_cell hvb5.res 1
        have q2 : w5.cell? ⟨R, 2, none⟩ = some (.slice none 0 0) := heap_cell hvb5.res 2
        have g0 : w5.frozen? ⟨R, 0, none⟩ = false := heap_free hvb5.res 0
        have g1 : w5.frozen? ⟨R, 1, none⟩ = false := heap_free hvb5.res 1
        have g2 : w5.frozen? ⟨R, 2, none⟩ = false := heap_free hvb5.res 2
        clear hvb5 hv5
        go_wp2
        refine bodyPost_ret (v := .agg #[.int .i64 id, .int .i64 code, .slice pd xs.length cap]) (by simp [results, Try.results63, go_sem, r0, r1, r2]) rfl ⟨_, rfl, HP.out⟩
      · go_wp2_with fail
        refine (pick_vb hvb5 (by omega) 4 (by omega) (by omega)).mono ?_
        rintro e w6 ⟨q, hq0, hq1, rfl, hvb6, hK6⟩
        have hv6 := hv5.ri (ri_keep hB hK6)
        clear hvb5 hv5 hK6
        have hq : q = 0 ∨ q = 1 ∨ q = 2 ∨ q = 3 := by omega
        rcases hq with rfl | rfl | rfl | rfl
        · go_wp2_with fail
          rw [e5] at hvb6 hv6
          refine (pick_vb (hvb6.alloc _) (by omega) 2 (by omega) (by omega)).mono ?_
          rintro e w7 ⟨k7, ha7, hx7, rfl, hvb7, hK7⟩
          have hs6 := hvb6.keep.size
          have cl : ∀ i, w7.cell? ⟨w6.heap.size, i, none⟩ = _ := fun i => (hK7.cell (p := ⟨w6.heap.size, i, none⟩) (by simp) (by simp; omega)).trans (World.cell?_alloc_at _ _ _ _ rfl)
          obtain ⟨u, hu0, hu1, hu⟩ := lit_at cl [-1, 2] rfl (-1) 5 (by simp) k7 ha7 (by simpa using hx7)
          have hv7 := (hv6.ri (ri_alloc _ _ _)).ri (ri_keep hB hK7)
          have hvb8 : VB B Mb R (P + 40 + 40 + 40 + 40) #[.int .i64 u, .int .i64 code, .slice pd xs.length cap] #[.int .i64 0, .int .i64 0, .slice none 0 0] 46 w (w7.setCell ⟨Mb, 0, none⟩ (.int .i64 u)) := by simpa using hvb7.set 0 (.int .i64 u)
          have hv8 := hv7.ri (hvb7.ri_set (by decide) 0 (.int .i64 u))
          obtain ⟨r0, r1, r2⟩ := rsp_res (a := .int .i64 u) (b := .int .i64 code) (c := .slice pd xs.length cap) hvb8
          have HP := Hid.intro (rsp_post (p0 := p) hvb8 (hv8.mono (by omega)) (by omega))
          have c0 : w7.cell? ⟨Mb, 0, none⟩ = some (.int .i64 id) := heap_cell hvb7.box 0
          have c1 : w7.cell? ⟨Mb, 1, none⟩ = some (.int .i64 code) := heap_cell hvb7.box 1
          have c2 : w7.cell? ⟨Mb, 2, none⟩ = some (.slice pd xs.length cap) := heap_cell hvb7.box 2
          have d0 : w7.frozen? ⟨Mb, 0, none⟩ = false := heap_free hvb7.box 0
          have d1 : w7.frozen? ⟨Mb, 1, none⟩ = false := heap_free hvb7.box 1
          have d2 : w7.frozen? ⟨Mb, 2, none⟩ = false := heap_free hvb7.box 2
          have q0 : w7.cell? ⟨R, 0, none⟩ = some (.int .i64 0) := heap_cell hvb7.res 0
          have q1 : w7.cell? ⟨R, 1, none⟩ = some (.int .i64 0) := heap_cell hvb7.res 1
          have q2 : w7.cell? ⟨R, 2, none⟩ = some (.slice none 0 0) := heap_cell hvb7.res 2
          have g0 : w7.frozen? ⟨R, 0, none⟩ = false := heap_free hvb7.res 0
          have g1 : w7.frozen? ⟨R, 1, none⟩ = false := heap_free hvb7.res 1
          have g2 : w7.frozen? ⟨R, 2, none⟩ = false := heap_free hvb7.res 2
          have hne := hvb7.ne
          clear cl hvb6 hv6 hvb7 hv7 hvb8 hv8 hK7
          go_wp2
          refine bodyPost_ret (v := .agg #[.int .i64 u, .int .i64 code, .slice pd xs.length cap]) (by simp [results, Try.results63, go_sem, r0, r1, r2]) rfl ⟨_, rfl, HP.out⟩
        · go_wp2_with fail
          rw [e5] at hvb6 hv6
          refine (pick_vb (hvb6.alloc _) (by omega) 2 (by omega) (by omega)).mono ?_
          rintro e w7 ⟨k7, ha7, hx7, rfl, hvb7, hK7⟩
          have hs6 := hvb6.keep.size
          have cl : ∀ i, w7.cell? ⟨w6.heap.size, i, none⟩ = _ := fun i => (hK7.cell (p := ⟨w6.heap.size, i, none⟩) (by simp) (by simp; omega)).trans (World.cell?_alloc_at _ _ _ _ rfl)
          obtain ⟨u, hu0, hu1, hu⟩ := lit_at cl [0, 5] rfl (-1) 5 (by simp) k7 ha7 (by simpa using hx7)
          have hv7 := (hv6.ri (ri_alloc _ _ _)).ri (ri_keep hB hK7)
          have hvb8 : VB B Mb R (P + 40 + 40 + 40 + 40) #[.int .i64 id, .int .i64 u, .slice pd xs.length cap] #[.int .i64 0, .int .i64 0, .slice none 0 0] 46 w (w7.setCell ⟨Mb, 1, none⟩ (.int .i64 u)) := by simpa using hvb7.set 1 (.int .i64 u)
          have hv8 := hv7.ri (hvb7.ri_set (by decide) 1 (.int .i64 u))
          obtain ⟨r0, r1, r2⟩ := rsp_res (a := .int .i64 id) (b := .int .i64 u) (c := .slice pd xs.length cap) hvb8
          have HP := Hid.intro (rsp_post (p0 := p) hvb8 (hv8.mono (by omega)) (by omega))
          have c0 : w7.cell? ⟨Mb, 0, none⟩ = some (.int .i64 id) := heap_cell hvb7.box 0
          have c1 : w7.cell? ⟨Mb, 1, none⟩ = some (.int .i64 code) := heap_cell hvb7.box 1
          have c2 : w7.cell? ⟨Mb, 2, none⟩ = some (.slice pd xs.length cap) := heap_cell hvb7.box 2
          have d0 : w7.frozen? ⟨Mb, 0, none⟩ = false := heap_free hvb7.box 0
          have d1 : w7.frozen? ⟨Mb, 1, none⟩ = false := heap_free hvb7.box 1
          have d2 : w7.frozen? ⟨Mb, 2, none⟩ = false := heap_free hvb7.box 2
          have q0 : w7.cell? ⟨R, 0, none⟩ = some (.int .i64 0) := heap_cell hvb7.res 0
          have q1 : w7.cell? ⟨R, 1, none⟩ = some (.int .i64 0) := heap_cell hvb7.res 1
          have q2 : w7.cell? ⟨R, 2, none⟩ = some (.slice none 0 0) := heap_cell hvb7.res 2
          have g0 : w7.frozen? ⟨R, 0, none⟩ = false := heap_free hvb7.res 0
          have g1 : w7.frozen? ⟨R, 1, none⟩ = false := heap_free hvb7.res 1
          have g2 : w7.frozen? ⟨R, 2, none⟩ = false := heap_free hvb7.res 2
          have hne := hvb7.ne
          clear cl hvb6 hv6 hvb7 hv7 hvb8 hv8 hK7
          go_wp2
          refine bodyPost_ret (v := .agg #[.int .i64 id, .int .i64 u, .slice pd xs.length cap]) (by simp [results, Try.results63, go_sem, r0, r1, r2]) rfl ⟨_, rfl, HP.out⟩
        · rw [e5] at hvb6 hv6
          have hs6 := hvb6.keep.size
          have hvb7 := hvb6.alloc (.cells (([-1] : List Int).map (Value.int .i64)).toArray 3)
          have hv7 := kIR.new (w := w6) (M := w.heap.size) [-1] hs6 (by simp)
          have hvb8 : VB B Mb R (P + 40 + 40 + 40) #[.int .i64 id, .int .i64 code, .slice (some ⟨w6.heap.size, 0, none⟩) 1 1] #[.int .i64 0, .int .i64 0, .slice none 0 0] 46 w ((w6.alloc (.cells #[.int .i64 (-1)] 3)).setCell ⟨Mb, 2, none⟩ (.slice (some ⟨w6.heap.size, 0, none⟩) 1 1)) := by simpa using hvb7.set 2 (.slice (some ⟨w6.heap.size, 0, none⟩) 1 1)
          have hv8 := hv7.ri (hvb7.ri_set (by decide) 2 (.slice (some ⟨w6.heap.size, 0, none⟩) 1 1))
          obtain ⟨r0, r1, r2⟩ := rsp_res (a := .int .i64 id) (b := .int .i64 code) (c := .slice (some ⟨w6.heap.size, 0, none⟩) 1 1) hvb8
          have HP := Hid.intro (rsp_post (p0 := p) hvb8 (hv8.mono (by simp)) (by omega))
          simp only [List.map_cons, List.map_nil] at hvb7 hvb8 hv8 r0 r1 r2 HP
          have c0 : w6.cell? ⟨Mb, 0, none⟩ = some (.int .i64 id) := heap_cell hvb6.box 0
          have c1 : w6.cell? ⟨Mb, 1, none⟩ = some (.int .i64 code) := heap_cell hvb6.box 1
          have c2 : w6.cell? ⟨Mb, 2, none⟩ = some (.slice pd xs.length cap) := heap_cell hvb6.box 2
          have d0 : w6.frozen? ⟨Mb, 0, none⟩ = false := heap_free hvb6.box 0
          have d1 : w6.frozen? ⟨Mb, 1, none⟩ = false := heap_free hvb6.box 1
          have d2 : w6.frozen? ⟨Mb, 2, none⟩ = false := heap_free hvb6.box 2
          have q0 : w6.cell? ⟨R, 0, none⟩ = some (.int .i64 0) := heap_cell hvb6.res 0
          have q1 : w6.cell? ⟨R, 1, none⟩ = some (.int .i64 0) := heap_cell hvb6.res 1
          have q2 : w6.cell? ⟨R, 2, none⟩ = some (.slice none 0 0) := heap_cell hvb6.res 2
          have g0 : w6.frozen? ⟨R, 0, none⟩ = false := heap_free hvb6.res 0
          have g1 : w6.frozen? ⟨R, 1, none⟩ = false := heap_free hvb6.res 1
          have g2 : w6.frozen? ⟨R, 2, none⟩ = false := heap_free hvb6.res 2
          have hne := hvb6.ne
          have hlM := heap_lt hvb6.box
          have hlR := heap_lt hvb6.res
          rw [alloc4 hlM hlR] at r0 r1 r2 HP
          clear hvb6 hv6 hvb7 hv7 hvb8 hv8
          go_wp2
          refine bodyPost_ret (v := .agg #[.int .i64 id, .int .i64 code, .slice (some ⟨w6.heap.size, 0, none⟩) 1 1]) (by simp [results, Try.results63, go_sem, r0, r1, r2]) rfl ⟨_, rfl, HP.out⟩
        · rw [e5] at hvb6 hv6
          have hs6 := hvb6.keep.size
          have hvb7 := hvb6.alloc (.cells (([1, 2, 3, 4, 5] : List Int).map (Value.int .i64)).toArray 3)
          have hv7 := kIR.new (w := w6) (M := w.heap.size) [1, 2, 3, 4, 5] hs6 (by simp)
          have hvb8 : VB B Mb R (P + 40 + 40 + 40) #[.int .i64 id, .int .i64 code, .slice (some ⟨w6.heap.size, 0, none⟩) 5 5] #[.int .i64 0, .int .i64 0, .slice none 0 0] 46 w ((w6.alloc (.cells #[.int .i64 1, .int .i64 2, .int .i64 3, .int .i64 4, .int .i64 5] 3)).setCell ⟨Mb, 2, none⟩ (.slice (some ⟨w6.heap.size, 0, none⟩) 5 5)) := by simpa using hvb7.set 2 (.slice (some ⟨w6.heap.size, 0, none⟩) 5 5)
          have hv8 := hv7.ri (hvb7.ri_set (by decide) 2 (.slice (some ⟨w6.heap.size, 0, none⟩) 5 5))
          obtain ⟨r0, r1, r2⟩ := rsp_res (a := .int .i64 id) (b := .int .i64 code) (c := .slice (some ⟨w6.heap.size, 0, none⟩) 5 5) hvb8
          have HP := Hid.intro (rsp_post (p0 := p) hvb8 (hv8.mono (by simp)) (by omega))
          simp only [List.map_cons, List.map_nil] at hvb7 hvb8 hv8 r0 r1 r2 HP
          have c0 : w6.cell? ⟨Mb, 0, none⟩ = some (.int .i64 id) := heap_cell hvb6.box 0
          have c1 : w6.cell? ⟨Mb, 1, none⟩ = some (.int .i64 code) := heap_cell hvb6.box 1
          have c2 : w6.cell? ⟨Mb, 2, none⟩ = some (.slice pd xs.length cap) := heap_cell hvb6.box 2
          have d0 : w6.frozen? ⟨Mb, 0, none⟩ = false := heap_free hvb6.box 0
          have d1 : w6.frozen? ⟨Mb, 1, none⟩ = false := heap_free hvb6.box 1
          have d2 : w6.frozen? ⟨Mb, 2, none⟩ = false := heap_free hvb6.box 2
          have q0 : w6.cell? ⟨R, 0, none⟩ = some (.int .i64 0) := heap_cell hvb6.res 0
          have q1 : w6.cell? ⟨R, 1, none⟩ = some (.int .i64 0) := heap_cell hvb6.res 1
          have q2 : w6.cell? ⟨R, 2, none⟩ = some (.slice none 0 0) := heap_cell hvb6.res 2
          have g0 : w6.frozen? ⟨R, 0, none⟩ = false := heap_free hvb6.res 0
          have g1 : w6.frozen? ⟨R, 1, none⟩ = false := heap_free hvb6.res 1
          have g2 : w6.frozen? ⟨R, 2, none⟩ = false := heap_free hvb6.res 2
          have hne := hvb6.ne
          have hlM := heap_lt hvb6.box
          have hlR := heap_lt hvb6.res
          rw [alloc4 hlM hlR] at r0 r1 r2 HP
          clear hvb6 hv6 hvb7 hv7 hvb8 hv8
          go_wp2
          refine bodyPost_ret (v := .agg #[.int .i64 id, .int .i64 code, .slice (some ⟨w6.heap.size, 0, none⟩) 5 5]) (by simp [results, Try.results63, go_sem, r0, r1, r2]) rfl ⟨_, rfl, HP.out⟩

set_option maxHeartbeats 1000000 in
theorem drawRspOk_any (a : Option Addr) (len cap : Nat) (w : World) (hc : len ≤ cap) (hm : cap ≤ 9223372036854775807) (h : Bytes w w.heap.size a len) :
    Calls Try.prog 29 #[.slice a len cap] w fun e w' => ∃ (r : Rsp) (pd : Option Addr) (c : Nat), e = .returned (rspV r pd c) ∧ RspAt w' r pd c ∧ r.data.length ≤ 10 ∧ Below w.heap.size w w' := by
  go_enter Try.func29, Try.ntmps29
  go_wp2_with fail
  have hbl : ∀ o, Below w.heap.size w (w.alloc o) := fun o => (Below.refl _ w).alloc (Nat.le_refl _) o
  have hby : ∀ o, Bytes (w.alloc o) (w.alloc o).heap.size a len := fun o => by
    rcases h with h | ⟨b, off, h1, h2, h3⟩
    · exact .inl h
    · exact .inr ⟨b, off, h1, by simp; omega, fun i hi => by
        obtain ⟨n, g1, g2, g3⟩ := h3 i hi
        exact ⟨n, g1, g2, ((hbl o).cell (p := ⟨b, off + i, none⟩) h2).trans g3⟩⟩
  refine (open_any a len cap _ hc hm (hby _)).mono ?_
  rintro e w1 ⟨rfl, hr1, hb1⟩
  have hs1 := hb1.size
  simp only [World.size_alloc] at hr1 hs1 ⊢
  have cR : w1.heap[w.heap.size]? = some (.cells #[.int .i64 0, .int .i64 0, .slice none 0 0] 46 (0, 0)) := (hb1.block w.heap.size (by simp)).trans (by show (w.heap.push _)[w.heap.size]? = _; simp)
  have hb1' := (hbl _).trans (hb1.mono (hbl _).size)
  clear hb1 hby
  go_wp2_with fail
  refine (l20Rsp_any (w.heap.size + 1) 0 2 w1 hr1 (by omega) (by omega) (by omega)).mono ?_
  rintro e w2 ⟨v, rfl, r, pd, cp, p', rfl, hA, hl, hr2, hp', hK, hnew0⟩
  have hnew : ∀ b off, pd = some ⟨b, off, none⟩ → b ≠ w.heap.size := fun b off e => by have := hnew0 b off e; omega
  have hlt := hr1.lt
  have cR2 := (hK.block w.heap.size (by omega) (by omega)).trans cR
  have hb2 : Below w.heap.size w w2 := hb1'.trans (hK.below (by omega) (by omega))
  have q0 : w2.cell? ⟨w.heap.size, 0, none⟩ = some (.int .i64 0) := heap_cell cR2 0
  have q1 : w2.cell? ⟨w.heap.size, 1, none⟩ = some (.int .i64 0) := heap_cell cR2 1
  have q2 : w2.cell? ⟨w.heap.size, 2, none⟩ = some (.slice none 0 0) := heap_cell cR2 2
  have g0 : w2.frozen? ⟨w.heap.size, 0, none⟩ = false := heap_free cR2 0
  have g1 : w2.frozen? ⟨w.heap.size, 1, none⟩ = false := heap_free cR2 1
  have g2 : w2.frozen? ⟨w.heap.size, 2, none⟩ = false := heap_free cR2 2
  have hfin := heap_set (heap_set (heap_set cR2 0 (.int .i64 r.id)) 1 (.int .i64 r.code)) 2 (.slice pd r.data.length cp)
  have r0 := heap_cell hfin 0
  have r1 := heap_cell hfin 1
  have r2 := heap_cell hfin 2
  simp at r0 r1 r2
  have hblk : ∀ k, k ≠ w.heap.size → (((w2.setCell ⟨w.heap.size, 0, none⟩ (.int .i64 r.id)).setCell ⟨w.heap.size, 1, none⟩ (.int .i64 r.code)).setCell ⟨w.heap.size, 2, none⟩ (.slice pd r.data.length cp)).heap[k]? = w2.heap[k]? := fun k hk => (heap_set_ne hk).trans ((heap_set_ne hk).trans (heap_set_ne hk))
  have hA' : RspAt (((w2.setCell ⟨w.heap.size, 0, none⟩ (.int .i64 r.id)).setCell ⟨w.heap.size, 1, none⟩ (.int .i64 r.code)).setCell ⟨w.heap.size, 2, none⟩ (.slice pd r.data.length cp)) r pd cp := ⟨hA.data.of (by simp) (fun b off e _ => hblk b (hnew b off e)), hA.c1, hA.c2⟩
  have HA := Hid.intro hA'
  have HB := Hid.intro (((hb2.setCell (p := ⟨w.heap.size, 0, none⟩) (Nat.le_refl _) (.int .i64 r.id)).setCell (p := ⟨w.heap.size, 1, none⟩) (Nat.le_refl _) (.int .i64 r.code)).setCell (p := ⟨w.heap.size, 2, none⟩) (Nat.le_refl _) (.slice pd r.data.length cp))
  clear hA hA' hb2 hK hr2 hb1' hfin cR cR2 hblk
  unfold rspV
  go_wp2
  refine bodyPost_ret (v := rspV r pd cp) (by simp [results, Try.results29, go_sem, r0, r1, r2, rspV]) rfl ⟨r, pd, cp, rfl, HA.out, hl, HB.out⟩

end Go.Proofs.Ytdjmjdljgdagcaa
