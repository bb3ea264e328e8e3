/-
  CycNew of the program.
-/
import Derived.Test.YtpjfkimgienkbabCycS
import Derived.Test.YtpjfkimgienkbabTypedL
import Derived.Test.YtpjfkimgienkbabOpsXM
namespace Go.Proofs.Ytpjfkimgienkbab
open Go.RowKit
set_option linter.unusedSimpArgs false
set_option linter.unusedVariables false

/-- who asks, of whom k are at the beginning; who answers -/
def blkP (k : Nat) : Array Value := ((ports0 k ++ List.replicate (3 - k) yCycPort.zero).flatMap yCycPort.cells).toArray
def blkS (k : Nat) : Array Value := ((slaves0 k ++ List.replicate (4 - k) yCycSlave.zero).flatMap yCycSlave.cells).toArray
theorem blkP_set : ∀ k, k < 3 → (blkP k).setIfInBounds (k * 4 + 3) (.int .i64 3) = blkP (k + 1)
  | 0, _ => rfl
  | 1, _ => rfl
  | 2, _ => rfl
  | k + 3, h => absurd h (by omega)
theorem blkS_set : ∀ k, k < 4 → (blkS k).setIfInBounds (k * 3 + 2) (.int .i64 2) = blkS (k + 1)
  | 0, _ => rfl
  | 1, _ => rfl
  | 2, _ => rfl
  | 3, _ => rfl
  | k + 4, h => absurd h (by omega)
theorem blkP_at : ∀ k, k < 3 → (blkP k)[k * 4 + 3]? = some (.int .i64 0)
  | 0, _ => rfl
  | 1, _ => rfl
  | 2, _ => rfl
  | k + 3, h => absurd h (by omega)
theorem blkS_at : ∀ k, k < 4 → (blkS k)[k * 3 + 2]? = some (.int .i64 0)
  | 0, _ => rfl
  | 1, _ => rfl
  | 2, _ => rfl
  | 3, _ => rfl
  | k + 4, h => absurd h (by omega)
theorem ports_row {w : World} {b : Nat} (h : w.heap[b]? = some (.cells (blkP 3) 46 (0, 0))) : ORow 46 4 w b 3 3 ((ports0 3).flatMap yCycPort.cells) := ⟨_, h, rfl, Nat.le_refl _, rfl, rfl⟩
theorem slaves_row {w : World} {b : Nat} (h : w.heap[b]? = some (.cells (blkS 4) 48 (0, 0))) : ORow 48 3 w b 4 4 ((slaves0 4).flatMap yCycSlave.cells) := ⟨_, h, rfl, Nat.le_refl _, rfl, rfl⟩
theorem blk_ne {w : World} {a b : Nat} {xs ys : Array Value} {s t : TypeId} (h1 : w.heap[a]? = some (.cells xs s (0, 0))) (h2 : w.heap[b]? = some (.cells ys t (0, 0))) (hne : s ≠ t) : a ≠ b := fun e => by
  subst e
  rw [h1] at h2
  injection h2 with h2
  injection h2 with _ h2
  exact hne h2

def kAN (M : Nat) : World → Value → Prop := fun w v => ∃ g h, v = .agg #[.slice (some ⟨g, 0, none⟩) 64 64, .slice (some ⟨h, 0, none⟩) 6 6] ∧ ORow 3 1 w g 64 64 ((noughts 64).map (Value.int .i64)) ∧ ORow 3 1 w h 6 6 ((freeH 6).map (Value.int .i64)) ∧ M ≤ g ∧ M ≤ h ∧ g ≠ h
def kPN (M : Nat) : World → Value → Prop := fun w v => ∃ b, v = .slice (some ⟨b, 0, none⟩) 3 3 ∧ w.heap[b]? = some (.cells (blkP 0) 46 (0, 0)) ∧ M ≤ b
def kSN (M : Nat) : World → Value → Prop := fun w v => ∃ b, v = .slice (some ⟨b, 0, none⟩) 4 4 ∧ w.heap[b]? = some (.cells (blkS 0) 48 (0, 0)) ∧ M ≤ b
def kVN (M : Nat) : World → Value → Prop := fun w v => ∃ b, v = .pointer (some ⟨b, 0, none⟩) ∧ w.heap[b]? = some (.cells #[.slice none 0 0, .slice none 0 0, .slice none 0 0, .slice none 0 0, .slice none 0 0] 31 (0, 0)) ∧ M ≤ b
def kTN (M : Nat) : World → Value → Prop := fun w v => ∃ g h bp bs, v = .agg #[.slice (some ⟨g, 0, none⟩) 64 64, .slice (some ⟨h, 0, none⟩) 6 6, .slice (some ⟨bp, 0, none⟩) 3 3, .slice (some ⟨bs, 0, none⟩) 4 4, .slice none 0 0] ∧ (ORow 3 1 w g 64 64 ((noughts 64).map (Value.int .i64)) ∧ ORow 3 1 w h 6 6 ((freeH 6).map (Value.int .i64)) ∧ M ≤ g ∧ M ≤ h ∧ g ≠ h) ∧ (w.heap[bp]? = some (.cells (blkP 0) 46 (0, 0)) ∧ M ≤ bp) ∧ (w.heap[bs]? = some (.cells (blkS 0) 48 (0, 0)) ∧ M ≤ bs)
theorem kAN_gr {M : Nat} {w w' : World} {v : Value} (hg : Gr w w') (h : kAN M w v) : kAN M w' v := by obtain ⟨g, h', e, h1, h2, h3⟩ := h; exact ⟨g, h', e, h1.gr hg, h2.gr hg, h3⟩
theorem kPN_gr {M : Nat} {w w' : World} {v : Value} (hg : Gr w w') (h : kPN M w v) : kPN M w' v := by obtain ⟨b, e, h1, h2⟩ := h; exact ⟨b, e, hg.cells h1, h2⟩
theorem kSN_gr {M : Nat} {w w' : World} {v : Value} (hg : Gr w w') (h : kSN M w v) : kSN M w' v := by obtain ⟨b, e, h1, h2⟩ := h; exact ⟨b, e, hg.cells h1, h2⟩
theorem kVN_gr {M : Nat} {w w' : World} {v : Value} (hg : Gr w w') (h : kVN M w v) : kVN M w' v := by obtain ⟨b, e, h1, h2⟩ := h; exact ⟨b, e, hg.cells h1, h2⟩
theorem kTN_gr {M : Nat} {w w' : World} {v : Value} (hg : Gr w w') (h : kTN M w v) : kTN M w' v := by obtain ⟨g, h', bp, bs, e, ⟨h1, h2, h3⟩, ⟨h4, h5⟩, h6, h7⟩ := h; exact ⟨g, h', bp, bs, e, ⟨h1.gr hg, h2.gr hg, h3⟩, ⟨hg.cells h4, h5⟩, hg.cells h6, h7⟩

theorem make_ports (W : World) : (Instr.makeSlice 27 (.int .i64 3) (.int .i64 3)).run Try.prog W = .ok (.slice (some ⟨W.heap.size, 0, none⟩) 3 3) (W.alloc (.cells (blkP 0) 46)) := by
  obtain ⟨i0, hi, hz0, hz1, hz2⟩ := info_parts Try.infoCycPortS
  have := run_make (P := Try.prog) W 27 46 i0 _ Try.underlying27 hi hz0 .i64 .i64 3 3 (by omega) (by omega) (by rw [hz2]; omega) (by omega)
  have e : madeCells (Value.cells (.agg #[.int .i64 0, .slice none 0 0, .slice none 0 0, .int .i64 0])) 12 = blkP 0 := by kernel_rfl
  rw [hz1, show (Int.toNat 3) = 3 from rfl, show 3 * 4 = 12 from rfl, e] at this
  exact this
theorem make_slaves (W : World) : (Instr.makeSlice 28 (.int .i64 4) (.int .i64 4)).run Try.prog W = .ok (.slice (some ⟨W.heap.size, 0, none⟩) 4 4) (W.alloc (.cells (blkS 0) 48)) := by
  obtain ⟨i0, hi, hz0, hz1, hz2⟩ := info_parts Try.infoCycSlaveS
  have := run_make (P := Try.prog) W 28 48 i0 _ Try.underlying28 hi hz0 .i64 .i64 4 4 (by omega) (by omega) (by rw [hz2]; omega) (by omega)
  have e : madeCells (Value.cells (.agg #[.slice none 0 0, .slice none 0 0, .int .i64 0])) 12 = blkS 0 := by kernel_rfl
  rw [hz1, show (Int.toNat 4) = 4 from rfl, show 4 * 3 = 12 from rfl, e] at this
  exact this

/-- a bus of the program in the making -/
structure CycP (M R S : Nat) (w wr : World) (g h bp bs kp ks : Nat) : Prop where
  mem : ORow 3 1 wr g 64 64 ((noughts 64).map (Value.int .i64))
  hol : ORow 3 1 wr h 6 6 ((freeH 6).map (Value.int .i64))
  R0 : wr.heap[R]? = some (.cells #[.slice none 0 0, .slice none 0 0, .slice none 0 0, .slice none 0 0, .slice none 0 0] 31 (0, 0))
  S0 : wr.heap[S]? = some (.cells #[.slice (some ⟨g, 0, none⟩) 64 64, .slice (some ⟨h, 0, none⟩) 6 6, .slice (some ⟨bp, 0, none⟩) 3 3, .slice (some ⟨bs, 0, none⟩) 4 4, .slice none 0 0] 31 (0, 0))
  P0 : wr.heap[bp]? = some (.cells (blkP kp) 46 (0, 0))
  L0 : wr.heap[bs]? = some (.cells (blkS ks) 48 (0, 0))
  lt : R < S ∧ R < g ∧ R < h ∧ R < bp ∧ R < bs ∧ M ≤ R
  ne : g ≠ h
  bel : Below M w wr
theorem ORow.hp {E s : Nat} {w : World} {b cap n : Nat} {cs : List Value} (h : ORow E s w b cap n cs) : ∃ cur, w.heap[b]? = some (.cells cur E (0, 0)) := by obtain ⟨cur, h, _⟩ := h; exact ⟨cur, h⟩
theorem CycP.putP {M R S : Nat} {w wr : World} {g h bp bs kp ks : Nat} (H : CycP M R S w wr g h bp bs kp ks) (hk : kp < 3) : CycP M R S w (wr.setCell ⟨bp, kp * 4 + 3, none⟩ (.int .i64 3)) g h bp bs (kp + 1) ks := by
  obtain ⟨a1, a2, a3, a4, a5, a6, a7, a8, a9⟩ := H
  obtain ⟨_, x1⟩ := a1.hp
  obtain ⟨_, x2⟩ := a2.hp
  exact ⟨a1.of (heap_set_ne (blk_ne x1 a5 (by decide))), a2.of (heap_set_ne (blk_ne x2 a5 (by decide))), (heap_set_ne (blk_ne a3 a5 (by decide))).trans a3, (heap_set_ne (blk_ne a4 a5 (by decide))).trans a4, by rw [heap_set a5, blkP_set kp hk], (heap_set_ne (blk_ne a6 a5 (by decide))).trans a6, a7, a8, a9.setCell (p := ⟨bp, kp * 4 + 3, none⟩) (by show M ≤ bp; omega) _⟩
theorem CycP.putS {M R S : Nat} {w wr : World} {g h bp bs kp ks : Nat} (H : CycP M R S w wr g h bp bs kp ks) (hk : ks < 4) : CycP M R S w (wr.setCell ⟨bs, ks * 3 + 2, none⟩ (.int .i64 2)) g h bp bs kp (ks + 1) := by
  obtain ⟨a1, a2, a3, a4, a5, a6, a7, a8, a9⟩ := H
  obtain ⟨_, x1⟩ := a1.hp
  obtain ⟨_, x2⟩ := a2.hp
  exact ⟨a1.of (heap_set_ne (blk_ne x1 a6 (by decide))), a2.of (heap_set_ne (blk_ne x2 a6 (by decide))), (heap_set_ne (blk_ne a3 a6 (by decide))).trans a3, (heap_set_ne (blk_ne a4 a6 (by decide))).trans a4, (heap_set_ne (blk_ne a5 a6 (by decide))).trans a5, by rw [heap_set a6, blkS_set ks hk], a7, a8, a9.setCell (p := ⟨bs, ks * 3 + 2, none⟩) (by show M ≤ bs; omega) _⟩

set_option maxRecDepth 100000 in
set_option maxHeartbeats 4000000 in
theorem impl_CycNewB (w : World) : Calls Try.prog 6 #[] w fun e w' => ∃ g h ch gp cp gs cs, e = .returned (.agg #[.slice (some ⟨g, 0, none⟩) 64 64, .slice (some ⟨h, 0, none⟩) 6 ch, .slice (some ⟨gp, 0, none⟩) 3 cp, .slice (some ⟨gs, 0, none⟩) 4 cs, .slice none 0 0]) ∧ CycB w' g h ch gp cp gs cs ∧ w.heap.size ≤ g ∧ w.heap.size ≤ h ∧ w.heap.size ≤ gp ∧ w.heap.size ≤ gs ∧ Below w.heap.size w w' := by
  go_enter Try.func6, Try.ntmps6
  go_wp2_with fail
  obtain ⟨W0, hW0⟩ : ∃ W0, w.alloc (.cells #[.slice none 0 0, .slice none 0 0, .slice none 0 0, .slice none 0 0, .slice none 0 0] 31) = W0 := ⟨_, rfl⟩
  have b0 : Below w.heap.size w W0 := by rw [← hW0]; exact below_nw _ _
  have bR : W0.heap[w.heap.size]? = some (.cells #[.slice none 0 0, .slice none 0 0, .slice none 0 0, .slice none 0 0, .slice none 0 0] 31 (0, 0)) := by rw [← hW0]; exact nw_k _ rfl
  have hsz : W0.heap.size = w.heap.size + 1 := by rw [← hW0]; simp
  rw [hW0]
  clear hW0
  refine wp_region_then (by kernel_rfl) Gr (fun _ W => Below W0.heap.size W0 W)
    (tab [(4, kAN W0.heap.size), (5, kPN W0.heap.size), (6, kSN W0.heap.size), (7, kTN W0.heap.size), (1, kVN W0.heap.size)])
    5 _ [4, 5, 6, 7, 1] rfl rfl (by kernel_rfl) (by kernel_rfl) rfl (by kernel_rfl) ?_ ?_ ?_ ?_
  · refine tabR_stable ?_
    intro x hx
    simp only [List.mem_cons, List.not_mem_nil, or_false] at hx
    rcases hx with rfl | rfl | rfl | rfl | rfl
    all_goals intro w w' v hr hv
    all_goals first | exact kAN_gr hr hv | exact kPN_gr hr hv | exact kSN_gr hr hv | exact kTN_gr hr hv | exact kVN_gr hr hv
  · exact (Below.refl _ _).drew
  · refine ops_cons (gd rfl <| tx_call rfl (fun _ ρ W _ hat hW => ?_)) ?_
    · have hf := hat.fn
      refine ⟨18, #[], by simp only [execOp]; go_simp, ?_⟩
      refine (impl_AtmNew W).mono ?_
      rintro e W' ⟨g, h, rfl, h1, h2, h3, h4, h5, hb⟩
      have := hW.size
      exact ⟨_, rfl, hW.trans (hb.mono hW.size), hb, ⟨g, h, rfl, h1, h2, by omega, by omega, h5⟩⟩
    refine ops_cons (gd rfl <| tx_val rfl (fun i ρ W _ hat hW => ?_)) ?_
    · have hc := hat.con
      have hm := make_ports W
      exact ⟨_, _, by simp only [execOp, hc]; go_simp, hW.trans ((below_nw W _).mono hW.size), below_nw W _, ⟨W.heap.size, rfl, nw_k _ rfl, hW.size⟩⟩
    refine ops_cons (gd rfl <| tx_val rfl (fun i ρ W _ hat hW => ?_)) ?_
    · have hc := hat.con
      have hm := make_slaves W
      exact ⟨_, _, by simp only [execOp, hc]; go_simp, hW.trans ((below_nw W _).mono hW.size), below_nw W _, ⟨W.heap.size, rfl, nw_k _ rfl, hW.size⟩⟩
    refine ops_cons (gd rfl <| tx_val rfl (fun i ρ W _ hat hW => ?_)) ?_
    · obtain ⟨g, h, e1, h1, h2, h3, h4, h5⟩ : kAN W0.heap.size W (ρ (.tmp 4)) := hat.dep 4 (by kernel_rfl)
      obtain ⟨bp, e2, p1, p2⟩ : kPN W0.heap.size W (ρ (.tmp 5)) := hat.dep 5 (by kernel_rfl)
      obtain ⟨bs, e3, s1, s2⟩ : kSN W0.heap.size W (ρ (.tmp 6)) := hat.dep 6 (by kernel_rfl)
      exact ⟨.agg #[.slice (some ⟨g, 0, none⟩) 64 64, .slice (some ⟨h, 0, none⟩) 6 6, .slice (some ⟨bp, 0, none⟩) 3 3, .slice (some ⟨bs, 0, none⟩) 4 4, .slice none 0 0], W, by simp only [execOp, e1, e2, e3]; go_simp, hW, Gr.refl _, ⟨g, h, bp, bs, rfl, ⟨h1, h2, h3, h4, h5⟩, ⟨p1, p2⟩, s1, s2⟩⟩
    refine ops_cons (gd rfl <| tx_val rfl (fun i ρ W _ hat hW => ?_)) ?_
    · exact ⟨.pointer (some ⟨W.heap.size, 0, none⟩), W.alloc (.cells #[.slice none 0 0, .slice none 0 0, .slice none 0 0, .slice none 0 0, .slice none 0 0] 31), by simp only [execOp]; go_simp, hW.trans ((below_nw W _).mono hW.size), below_nw W _, ⟨W.heap.size, rfl, nw_k _ rfl, hW.size⟩⟩
    exact ops_nil
  · intro f W hW hf
    obtain ⟨g, h, bp, bs, e7, ⟨h1, h2, h3, h4, h5⟩, ⟨p1, p2⟩, s1, s2⟩ : kTN W0.heap.size W (f 7) := hf 7 (by simp)
    obtain ⟨S, e1, v1, v2⟩ : kVN W0.heap.size W (f 1) := hf 1 (by simp)
    clear hf
    have bR' := (hW.block w.heap.size (by omega)).trans bR
    obtain ⟨_, x1⟩ := h1.hp
    obtain ⟨_, x2⟩ := h2.hp
    have kp : ∀ (b : Nat) (xs : Array Value) (t : TypeId), W.heap[b]? = some (.cells xs t (0, 0)) → t ≠ 31 → (((((W.setCell ⟨S, 0, none⟩ (.slice (some ⟨g, 0, none⟩) 64 64)).setCell ⟨S, 1, none⟩ (.slice (some ⟨h, 0, none⟩) 6 6)).setCell ⟨S, 2, none⟩ (.slice (some ⟨bp, 0, none⟩) 3 3)).setCell ⟨S, 3, none⟩ (.slice (some ⟨bs, 0, none⟩) 4 4)).setCell ⟨S, 4, none⟩ (.slice none 0 0)).heap[b]? = W.heap[b]? := fun b xs t hb ht => by
      have hn := blk_ne hb v1 ht
      exact (heap_set_ne hn).trans ((heap_set_ne hn).trans ((heap_set_ne hn).trans ((heap_set_ne hn).trans (heap_set_ne hn))))
    have hRS : w.heap.size ≠ S := by omega
    have HM : Hid (CycP w.heap.size w.heap.size S w (((((W.setCell ⟨S, 0, none⟩ (.slice (some ⟨g, 0, none⟩) 64 64)).setCell ⟨S, 1, none⟩ (.slice (some ⟨h, 0, none⟩) 6 6)).setCell ⟨S, 2, none⟩ (.slice (some ⟨bp, 0, none⟩) 3 3)).setCell ⟨S, 3, none⟩ (.slice (some ⟨bs, 0, none⟩) 4 4)).setCell ⟨S, 4, none⟩ (.slice none 0 0)) g h bp bs 0 0) := Hid.intro ⟨h1.of (kp _ _ _ x1 (by decide)), h2.of (kp _ _ _ x2 (by decide)), ((heap_set_ne hRS).trans ((heap_set_ne hRS).trans ((heap_set_ne hRS).trans ((heap_set_ne hRS).trans (heap_set_ne hRS))))).trans bR', (heap_set (heap_set (heap_set (heap_set (heap_set v1 0 _) 1 _) 2 _) 3 _) 4 _).trans rfl, (kp _ _ _ p1 (by decide)).trans p1, (kp _ _ _ s1 (by decide)).trans s1, ⟨by omega, by omega, by omega, by omega, by omega, Nat.le_refl _⟩, h5, (((((b0.trans (hW.mono b0.size)).setCell (p := ⟨S, 0, none⟩) (by show w.heap.size ≤ S; omega) _).setCell (p := ⟨S, 1, none⟩) (by show w.heap.size ≤ S; omega) _).setCell (p := ⟨S, 2, none⟩) (by show w.heap.size ≤ S; omega) _).setCell (p := ⟨S, 3, none⟩) (by show w.heap.size ≤ S; omega) _).setCell (p := ⟨S, 4, none⟩) (by show w.heap.size ≤ S; omega) _⟩
    have s0' := heap_cell v1 0
    have s1' := heap_cell v1 1
    have s2' := heap_cell v1 2
    have s3' := heap_cell v1 3
    have s4' := heap_cell v1 4
    have f0 := heap_free v1 0
    have f1 := heap_free v1 1
    have f2 := heap_free v1 2
    have f3 := heap_free v1 3
    have f4 := heap_free v1 4
    have cW : (((((W.setCell ⟨S, 0, none⟩ (.slice (some ⟨g, 0, none⟩) 64 64)).setCell ⟨S, 1, none⟩ (.slice (some ⟨h, 0, none⟩) 6 6)).setCell ⟨S, 2, none⟩ (.slice (some ⟨bp, 0, none⟩) 3 3)).setCell ⟨S, 3, none⟩ (.slice (some ⟨bs, 0, none⟩) 4 4)).setCell ⟨S, 4, none⟩ (.slice none 0 0)).cell? ⟨S, 2, none⟩ = some (.slice (some ⟨bp, 0, none⟩) 3 3) := heap_cell HM.out.S0 2
    simp at s0' s1' s2' s3' s4' cW
    clear kp x1 x2 h1 h2 h3 h4 h5 p1 p2 s1 s2 bR' bR b0 hW v1 v2
    simp only [fill, e7, e1]
    go_simp
    go_wp2
    go_loopw [11] (fun i wr => ∃ k : Nat, k ≤ 3 ∧ i = .int .i64 k ∧ Hid (CycP w.heap.size w.heap.size S w wr g h bp bs k 0)) (fun i _ => 3 - (intOf i).toNat)
    case atStart => exact ⟨0, by omega, rfl, HM⟩
    case round =>
      clear HM cW s0' s1' s2' s3' s4' f0 f1 f2 f3 f4
      obtain ⟨k, hk, rfl, HM⟩ := hrel
      have c2 : wr.cell? ⟨S, 2, none⟩ = some (.slice (some ⟨bp, 0, none⟩) 3 3) := heap_cell HM.out.S0 2
      by_cases hlt : k < 3
      · have hk0 : (0 : Int) ≤ (k : Int) := by omega
        have hk1 : (k : Int) < 3 := by omega
        have cP : wr.cell? ⟨bp, k * 4 + 3, none⟩ = some (.int .i64 0) := (heap_cell HM.out.P0 _).trans (blkP_at k hlt)
        have fP := heap_free HM.out.P0 (k * 4 + 3)
        have HM2 := Hid.intro (HM.out.putP hlt)
        clear HM
        go_wp2
        go_roundw
        case rel => exact ⟨k + 1, by omega, by go_num, HM2⟩
        case measure => simp [intOf]; omega
      · have hk' : k = 3 := by omega
        have hkI : (k : Int) = 3 := by omega
        rw [hkI]
        clear hkI
        subst hk'
        have c3 : wr.cell? ⟨S, 3, none⟩ = some (.slice (some ⟨bs, 0, none⟩) 4 4) := heap_cell HM.out.S0 3
        go_wp2
        go_loopw [23] (fun i wr => ∃ k : Nat, k ≤ 4 ∧ i = .int .i64 k ∧ Hid (CycP w.heap.size w.heap.size S w wr g h bp bs 3 k)) (fun i _ => 4 - (intOf i).toNat)
        case atStart => exact ⟨0, by omega, rfl, HM⟩
        case round =>
          clear HM c2 c3 hk hlt
          obtain ⟨k, hk, rfl, HM⟩ := hrel
          have c3 : wr.cell? ⟨S, 3, none⟩ = some (.slice (some ⟨bs, 0, none⟩) 4 4) := heap_cell HM.out.S0 3
          by_cases hlt : k < 4
          · have hk0 : (0 : Int) ≤ (k : Int) := by omega
            have hk1 : (k : Int) < 4 := by omega
            have cP : wr.cell? ⟨bs, k * 3 + 2, none⟩ = some (.int .i64 0) := (heap_cell HM.out.L0 _).trans (blkS_at k hlt)
            have fP := heap_free HM.out.L0 (k * 3 + 2)
            have HM2 := Hid.intro (HM.out.putS hlt)
            clear HM
            go_wp2
            go_roundw
            case rel => exact ⟨k + 1, by omega, by go_num, HM2⟩
            case measure => simp [intOf]; omega
          · have hk' : k = 4 := by omega
            subst hk'
            have hS0 := HM.out.S0
            have c0 : wr.cell? ⟨S, 0, none⟩ = some (.slice (some ⟨g, 0, none⟩) 64 64) := heap_cell hS0 0
            have c1 : wr.cell? ⟨S, 1, none⟩ = some (.slice (some ⟨h, 0, none⟩) 6 6) := heap_cell hS0 1
            have c2 : wr.cell? ⟨S, 2, none⟩ = some (.slice (some ⟨bp, 0, none⟩) 3 3) := heap_cell hS0 2
            have c4 : wr.cell? ⟨S, 4, none⟩ = some (.slice none 0 0) := heap_cell hS0 4
            have hR := HM.out.R0
            have r0 : wr.cell? ⟨w.heap.size, 0, none⟩ = some (.slice none 0 0) := heap_cell hR 0
            have r1 : wr.cell? ⟨w.heap.size, 1, none⟩ = some (.slice none 0 0) := heap_cell hR 1
            have r2 : wr.cell? ⟨w.heap.size, 2, none⟩ = some (.slice none 0 0) := heap_cell hR 2
            have r3 : wr.cell? ⟨w.heap.size, 3, none⟩ = some (.slice none 0 0) := heap_cell hR 3
            have r4 : wr.cell? ⟨w.heap.size, 4, none⟩ = some (.slice none 0 0) := heap_cell hR 4
            have f0 := heap_free hR 0
            have f1 := heap_free hR 1
            have f2 := heap_free hR 2
            have f3 := heap_free hR 3
            have f4 := heap_free hR 4
            have hR2 := heap_set (heap_set (heap_set (heap_set (heap_set hR 0 (.slice (some ⟨g, 0, none⟩) 64 64)) 1 (.slice (some ⟨h, 0, none⟩) 6 6)) 2 (.slice (some ⟨bp, 0, none⟩) 3 3)) 3 (.slice (some ⟨bs, 0, none⟩) 4 4)) 4 (.slice none 0 0)
            have s0 := heap_cell hR2 0
            have s1 := heap_cell hR2 1
            have s2 := heap_cell hR2 2
            have s3 := heap_cell hR2 3
            have s4 := heap_cell hR2 4
            simp at s0 s1 s2 s3 s4
            clear hR2 hR hS0
            go_wp2
            have hlt := HM.out.lt
            refine bodyPost_ret (v := .agg #[.slice (some ⟨g, 0, none⟩) 64 64, .slice (some ⟨h, 0, none⟩) 6 6, .slice (some ⟨bp, 0, none⟩) 3 3, .slice (some ⟨bs, 0, none⟩) 4 4, .slice none 0 0]) (by simp [results, Try.results6, go_sem, s0, s1, s2, s3, s4]) rfl ⟨g, h, 6, bp, 3, bs, 4, rfl, ?_, by omega, by omega, by omega, by omega, ?_⟩
            · have hk : ∀ b, w.heap.size ≠ b → (((((wr.setCell ⟨w.heap.size, 0, none⟩ (.slice (some ⟨g, 0, none⟩) 64 64)).setCell ⟨w.heap.size, 1, none⟩ (.slice (some ⟨h, 0, none⟩) 6 6)).setCell ⟨w.heap.size, 2, none⟩ (.slice (some ⟨bp, 0, none⟩) 3 3)).setCell ⟨w.heap.size, 3, none⟩ (.slice (some ⟨bs, 0, none⟩) 4 4)).setCell ⟨w.heap.size, 4, none⟩ (.slice none 0 0)).heap[b]? = wr.heap[b]? := fun b hb => (heap_set_ne (by omega)).trans ((heap_set_ne (by omega)).trans ((heap_set_ne (by omega)).trans ((heap_set_ne (by omega)).trans (heap_set_ne (by omega)))))
              exact ⟨HM.out.mem.of (hk g (by omega)), HM.out.hol.of (hk h (by omega)), by omega, by omega, ports_row ((hk bp (by omega)).trans HM.out.P0), by unfold maxLen; omega, slaves_row ((hk bs (by omega)).trans HM.out.L0), by unfold maxLen; omega, HM.out.ne⟩
            · exact ((((HM.out.bel.setCell (p := ⟨w.heap.size, 0, none⟩) (Nat.le_refl _) _).setCell (p := ⟨w.heap.size, 1, none⟩) (Nat.le_refl _) _).setCell (p := ⟨w.heap.size, 2, none⟩) (Nat.le_refl _) _).setCell (p := ⟨w.heap.size, 3, none⟩) (Nat.le_refl _) _).setCell (p := ⟨w.heap.size, 4, none⟩) (Nat.le_refl _) _

end Go.Proofs.Ytpjfkimgienkbab
