/-
  spec's l20Req and DrawReqOk: whatever the code, a value of what is asked, its words and lanes in memory of its own; nothing that was there has turned but the reader.
-/
import Derived.Test.YtlifkfemdknndaaProg
import Derived.Test.YtlifkfemdknndaaVBox
import Derived.Test.YtlifkfemdknndaaReqM
import Derived.Deep.DeepCutAuto
import Derived.Deep.CutBlock
import Derived.Deep.AppendLies
namespace Go.Proofs.Ytlifkfemdknndaa
open Go.RowKit
set_option linter.unusedSimpArgs false
set_option linter.unusedVariables false

/-- what l20Req leaves -/
def ReqPost (B p : Nat) (w : World) (v : Value) (w' : World) : Prop := ∃ (r : Req) (pd : Option Addr) (cd : Nat) (pl : Option Addr) (cl : Nat) (p' : Nat), v = reqV r pd cd pl cl ∧ ReqAt w' r pd cd pl cl ∧ r.data.length ≤ 10 ∧ r.lanes.length ≤ 10 ∧ Rd w' B p' ∧ p' ≤ p + 20000 ∧ Keep B w w' ∧
    (∀ b off, pd = some ⟨b, off, none⟩ → w.heap.size ≤ b) ∧ (∀ b off, pl = some ⟨b, off, none⟩ → w.heap.size ≤ b)

/-- what is asked, in the making -/
def QE (B Mb R p N : Nat) (w0 wx : World) : Prop := ∃ (id kind addr many : Int) (wrap : Bool) (v5 v6 : Value), VB B Mb R p #[.int .i64 id, .int .i64 kind, .int .i64 addr, .int .i64 many, .bool wrap, v5, v6] #[.int .i64 0, .int .i64 0, .int .i64 0, .int .i64 0, .bool false, .slice none 0 0, .slice none 0 0] 40 w0 wx ∧ kIR w0.heap.size N wx v5 ∧ kIR w0.heap.size N wx v6
/-- the same, its address and how many words in bounds -/
def QS (B Mb R p N : Nat) (w0 wx : World) : Prop := ∃ (id kind addr many : Int) (wrap : Bool) (v5 v6 : Value), VB B Mb R p #[.int .i64 id, .int .i64 kind, .int .i64 addr, .int .i64 many, .bool wrap, v5, v6] #[.int .i64 0, .int .i64 0, .int .i64 0, .int .i64 0, .bool false, .slice none 0 0, .slice none 0 0] 40 w0 wx ∧ kIR w0.heap.size N wx v5 ∧ kIR w0.heap.size N wx v6 ∧ 0 ≤ addr ∧ addr ≤ 63 ∧ 1 ≤ many ∧ many ≤ 4

theorem ints_past {B Mb R p N : Nat} {cs zs : Array Value} {w0 w w' : World} {v : Value} (h : VB B Mb R p cs zs 40 w0 w) (hv : kIR w0.heap.size N w v) (hs : w.heap.size ≤ w'.heap.size) (hne : ∀ k, k ≠ R → w'.heap[k]? = w.heap[k]?) :
    ∃ (pd : Option Addr) (xs : List Int) (cap : Nat), v = .slice pd xs.length cap ∧ IntsAt w' pd xs ∧ xs.length ≤ N ∧ xs.length ≤ cap ∧ cap ≤ 9223372036854775807 ∧ (∀ b off, pd = some ⟨b, off, none⟩ → w0.heap.size ≤ b) := by
  have hv' : kIR w0.heap.size N w' v := hv.ri ⟨hs, fun g cap n _ hp => hp.of (hne g (fun e => by
    subst e
    obtain ⟨cur, e1, _⟩ := hp
    rw [h.res] at e1
    cases e1))⟩
  exact hv'.ints

theorem req_post {B Mb R p p0 : Nat} {w0 w : World} {id kind addr many : Int} {wrap : Bool} {v5 v6 : Value} (h : VB B Mb R p #[.int .i64 id, .int .i64 kind, .int .i64 addr, .int .i64 many, .bool wrap, v5, v6] #[.int .i64 0, .int .i64 0, .int .i64 0, .int .i64 0, .bool false, .slice none 0 0, .slice none 0 0] 40 w0 w) (h5 : kIR w0.heap.size 10 w v5) (h6 : kIR w0.heap.size 10 w v6) (hp : p ≤ p0 + 20000) :
    ReqPost B p0 w0 (.agg #[.int .i64 id, .int .i64 kind, .int .i64 addr, .int .i64 many, .bool wrap, v5, v6]) (((((((w.setCell ⟨R, 0, none⟩ (.int .i64 id)).setCell ⟨R, 1, none⟩ (.int .i64 kind)).setCell ⟨R, 2, none⟩ (.int .i64 addr)).setCell ⟨R, 3, none⟩ (.int .i64 many)).setCell ⟨R, 4, none⟩ (.bool wrap)).setCell ⟨R, 5, none⟩ v5).setCell ⟨R, 6, none⟩ v6) := by
  obtain ⟨q, h1, h2⟩ := h.rd
  have hB := h.hB
  have hR := h.newR
  have hne : ∀ k, k ≠ R → (((((((w.setCell ⟨R, 0, none⟩ (.int .i64 id)).setCell ⟨R, 1, none⟩ (.int .i64 kind)).setCell ⟨R, 2, none⟩ (.int .i64 addr)).setCell ⟨R, 3, none⟩ (.int .i64 many)).setCell ⟨R, 4, none⟩ (.bool wrap)).setCell ⟨R, 5, none⟩ v5).setCell ⟨R, 6, none⟩ v6).heap[k]? = w.heap[k]? := fun k hk => (heap_set_ne hk).trans ((heap_set_ne hk).trans ((heap_set_ne hk).trans ((heap_set_ne hk).trans ((heap_set_ne hk).trans ((heap_set_ne hk).trans (heap_set_ne hk))))))
  obtain ⟨pd, xs, cd, e5, i5, n5, a5, b5, f5⟩ := ints_past h h5 (by simp) hne
  obtain ⟨pl, ys, cl, e6, i6, n6, a6, b6, f6⟩ := ints_past h h6 (by simp) hne
  subst e5 e6
  refine ⟨⟨id, kind, addr, many, wrap, xs, ys⟩, pd, cd, pl, cl, q, rfl, ⟨i5, i6, a5, b5, a6, b6⟩, n5, n6, ?_, by omega, ?_, f5, f6⟩
  · exact ((((((h2.other (x := ⟨R, 0, none⟩) (by simp; omega) _).other (x := ⟨R, 1, none⟩) (by simp; omega) _).other (x := ⟨R, 2, none⟩) (by simp; omega) _).other (x := ⟨R, 3, none⟩) (by simp; omega) _).other (x := ⟨R, 4, none⟩) (by simp; omega) _).other (x := ⟨R, 5, none⟩) (by simp; omega) _).other (x := ⟨R, 6, none⟩) (by simp; omega) _
  · exact ((((((h.keep.setCell (p := ⟨R, 0, none⟩) (.inr h.newR) _).setCell (p := ⟨R, 1, none⟩) (.inr h.newR) _).setCell (p := ⟨R, 2, none⟩) (.inr h.newR) _).setCell (p := ⟨R, 3, none⟩) (.inr h.newR) _).setCell (p := ⟨R, 4, none⟩) (.inr h.newR) _).setCell (p := ⟨R, 5, none⟩) (.inr h.newR) _).setCell (p := ⟨R, 6, none⟩) (.inr h.newR) _

theorem req_res {B Mb R p : Nat} {cs : Array Value} {w0 w : World} {a0 a1 a2 a3 a4 a5 a6 : Value} (h : VB B Mb R p cs #[.int .i64 0, .int .i64 0, .int .i64 0, .int .i64 0, .bool false, .slice none 0 0, .slice none 0 0] 40 w0 w) :
    (((((((w.setCell ⟨R, 0, none⟩ a0).setCell ⟨R, 1, none⟩ a1).setCell ⟨R, 2, none⟩ a2).setCell ⟨R, 3, none⟩ a3).setCell ⟨R, 4, none⟩ a4).setCell ⟨R, 5, none⟩ a5).setCell ⟨R, 6, none⟩ a6).cell? ⟨R, 0, none⟩ = some a0 ∧ (((((((w.setCell ⟨R, 0, none⟩ a0).setCell ⟨R, 1, none⟩ a1).setCell ⟨R, 2, none⟩ a2).setCell ⟨R, 3, none⟩ a3).setCell ⟨R, 4, none⟩ a4).setCell ⟨R, 5, none⟩ a5).setCell ⟨R, 6, none⟩ a6).cell? ⟨R, 1, none⟩ = some a1 ∧ (((((((w.setCell ⟨R, 0, none⟩ a0).setCell ⟨R, 1, none⟩ a1).setCell ⟨R, 2, none⟩ a2).setCell ⟨R, 3, none⟩ a3).setCell ⟨R, 4, none⟩ a4).setCell ⟨R, 5, none⟩ a5).setCell ⟨R, 6, none⟩ a6).cell? ⟨R, 2, none⟩ = some a2 ∧ (((((((w.setCell ⟨R, 0, none⟩ a0).setCell ⟨R, 1, none⟩ a1).setCell ⟨R, 2, none⟩ a2).setCell ⟨R, 3, none⟩ a3).setCell ⟨R, 4, none⟩ a4).setCell ⟨R, 5, none⟩ a5).setCell ⟨R, 6, none⟩ a6).cell? ⟨R, 3, none⟩ = some a3 ∧ (((((((w.setCell ⟨R, 0, none⟩ a0).setCell ⟨R, 1, none⟩ a1).setCell ⟨R, 2, none⟩ a2).setCell ⟨R, 3, none⟩ a3).setCell ⟨R, 4, none⟩ a4).setCell ⟨R, 5, none⟩ a5).setCell ⟨R, 6, none⟩ a6).cell? ⟨R, 4, none⟩ = some a4 ∧ (((((((w.setCell ⟨R, 0, none⟩ a0).setCell ⟨R, 1, none⟩ a1).setCell ⟨R, 2, none⟩ a2).setCell ⟨R, 3, none⟩ a3).setCell ⟨R, 4, none⟩ a4).setCell ⟨R, 5, none⟩ a5).setCell ⟨R, 6, none⟩ a6).cell? ⟨R, 5, none⟩ = some a5 ∧ (((((((w.setCell ⟨R, 0, none⟩ a0).setCell ⟨R, 1, none⟩ a1).setCell ⟨R, 2, none⟩ a2).setCell ⟨R, 3, none⟩ a3).setCell ⟨R, 4, none⟩ a4).setCell ⟨R, 5, none⟩ a5).setCell ⟨R, 6, none⟩ a6).cell? ⟨R, 6, none⟩ = some a6 := by
  have hf : (((((((w.setCell ⟨R, 0, none⟩ a0).setCell ⟨R, 1, none⟩ a1).setCell ⟨R, 2, none⟩ a2).setCell ⟨R, 3, none⟩ a3).setCell ⟨R, 4, none⟩ a4).setCell ⟨R, 5, none⟩ a5).setCell ⟨R, 6, none⟩ a6).heap[R]? = some (.cells #[a0, a1, a2, a3, a4, a5, a6] 40 (0, 0)) := by
    have := heap_set (heap_set (heap_set (heap_set (heap_set (heap_set (heap_set h.res 0 a0) 1 a1) 2 a2) 3 a3) 4 a4) 5 a5) 6 a6
    simpa using this
  exact ⟨heap_cell hf 0, heap_cell hf 1, heap_cell hf 2, heap_cell hf 3, heap_cell hf 4, heap_cell hf 5, heap_cell hf 6⟩

theorem app_q5 {B Mb R P p0 : Nat} {w0 w w' : World} {id kind addr many : Int} {wrap : Bool} {v5 v6 v' : Value} (h : VB B Mb R P #[.int .i64 id, .int .i64 kind, .int .i64 addr, .int .i64 many, .bool wrap, v5, v6] #[.int .i64 0, .int .i64 0, .int .i64 0, .int .i64 0, .bool false, .slice none 0 0, .slice none 0 0] 40 w0 w) (h6 : kIR w0.heap.size 4 w v6) (hv : kIR w0.heap.size (4 + 1) w' v') (hA : AppI w0.heap.size w w') (hP : P ≤ p0 + 10000) :
    ∃ pd n cap, v' = .slice pd n cap ∧ w'.cell? ⟨Mb, 5, none⟩ = some v5 ∧ w'.frozen? ⟨Mb, 5, none⟩ = false ∧ Hid (QE B Mb R (p0 + 10000) 5 w0 (w'.setCell ⟨Mb, 5, none⟩ v')) := by
  obtain ⟨pd, xs, cap, e, _⟩ := hv.ints
  have h8 := h.app (by decide) hA
  have ho := h6.ri ⟨hA.size, hA.ri⟩
  have h9 : VB B Mb R P #[.int .i64 id, .int .i64 kind, .int .i64 addr, .int .i64 many, .bool wrap, v', v6] #[.int .i64 0, .int .i64 0, .int .i64 0, .int .i64 0, .bool false, .slice none 0 0, .slice none 0 0] 40 w0 (w'.setCell ⟨Mb, 5, none⟩ v') := by simpa using h8.set 5 v'
  exact ⟨pd, xs.length, cap, e, heap_cell h8.box 5, heap_free h8.box 5, _, _, _, _, _, _, _, h9.le (by omega), (hv.ri (h8.ri_set (by decide) 5 v')).mono (by omega), (ho.ri (h8.ri_set (by decide) 5 v')).mono (by omega)⟩

theorem app_q6 {B Mb R P p0 : Nat} {w0 w w' : World} {id kind addr many : Int} {wrap : Bool} {v5 v6 v' : Value} (h : VB B Mb R P #[.int .i64 id, .int .i64 kind, .int .i64 addr, .int .i64 many, .bool wrap, v5, v6] #[.int .i64 0, .int .i64 0, .int .i64 0, .int .i64 0, .bool false, .slice none 0 0, .slice none 0 0] 40 w0 w) (h5 : kIR w0.heap.size 4 w v5) (hv : kIR w0.heap.size (4 + 1) w' v') (hA : AppI w0.heap.size w w') (hP : P ≤ p0 + 10000) :
    ∃ pd n cap, v' = .slice pd n cap ∧ w'.cell? ⟨Mb, 6, none⟩ = some v6 ∧ w'.frozen? ⟨Mb, 6, none⟩ = false ∧ Hid (QE B Mb R (p0 + 10000) 5 w0 (w'.setCell ⟨Mb, 6, none⟩ v')) := by
  obtain ⟨pd, xs, cap, e, _⟩ := hv.ints
  have h8 := h.app (by decide) hA
  have ho := h5.ri ⟨hA.size, hA.ri⟩
  have h9 : VB B Mb R P #[.int .i64 id, .int .i64 kind, .int .i64 addr, .int .i64 many, .bool wrap, v5, v'] #[.int .i64 0, .int .i64 0, .int .i64 0, .int .i64 0, .bool false, .slice none 0 0, .slice none 0 0] 40 w0 (w'.setCell ⟨Mb, 6, none⟩ v') := by simpa using h8.set 6 v'
  exact ⟨pd, xs.length, cap, e, heap_cell h8.box 6, heap_free h8.box 6, _, _, _, _, _, _, _, h9.le (by omega), (ho.ri (h8.ri_set (by decide) 6 v')).mono (by omega), (hv.ri (h8.ri_set (by decide) 6 v')).mono (by omega)⟩

def kAgg : World → Value → Prop := fun _ v => ∃ (id kind addr many : Int) (wrap : Bool), v = .agg #[.int .i64 id, .int .i64 kind, .int .i64 addr, .int .i64 many, .bool wrap, .slice none 0 0, .slice none 0 0] ∧ 0 ≤ addr ∧ addr ≤ 63 ∧ 1 ≤ many ∧ many ≤ 4
def kBoxZ (M0 : Nat) : World → Value → Prop := fun w v => ∃ Mb, v = .pointer (some ⟨Mb, 0, none⟩) ∧ M0 ≤ Mb ∧ w.heap[Mb]? = some (.cells #[.int .i64 0, .int .i64 0, .int .i64 0, .int .i64 0, .bool false, .slice none 0 0, .slice none 0 0] 40 (0, 0))
theorem stable_agg (M : Nat) : Stable M kAgg := fun _ _ _ _ h => h
theorem stable_boxZ (M : Nat) : Stable M (kBoxZ M) := fun w w' v hk ⟨Mb, h1, h2, h3⟩ => ⟨Mb, h1, h2, (hk.block Mb h2 (heap_lt h3)).trans h3⟩

set_option maxRecDepth 100000 in
set_option maxHeartbeats 4000000 in
theorem l20Req_any (B p : Nat) (n : Int) (w : World) (h : Rd w B p) (hp : p ≤ 900000) (hn : 1 ≤ n) (hn' : n ≤ 8999 ∨ 9000 ≤ n) :
    Calls Try.prog 51 #[.pointer (some ⟨B, 0, none⟩), .int .i64 n] w fun e w' => ∃ v, e = .returned v ∧ ReqPost B p w v w' := by
  have hB := h.lt
  go_enter Try.func51, Try.ntmps51
  have hres0 : (w.alloc (.cells #[.int .i64 0, .int .i64 0, .int .i64 0, .int .i64 0, .bool false, .slice none 0 0, .slice none 0 0] 40)).heap[w.heap.size]? = some (.cells #[.int .i64 0, .int .i64 0, .int .i64 0, .int .i64 0, .bool false, .slice none 0 0, .slice none 0 0] 40 (0, 0)) := by show (w.heap.push _)[w.heap.size]? = _; simp
  have hr0 := h.alloc (.cells #[.int .i64 0, .int .i64 0, .int .i64 0, .int .i64 0, .bool false, .slice none 0 0, .slice none 0 0] 40)
  have hk0 := (Keep.refl B w).alloc (.cells #[.int .i64 0, .int .i64 0, .int .i64 0, .int .i64 0, .bool false, .slice none 0 0, .slice none 0 0] 40)
  have hs0 : (w.alloc (.cells #[.int .i64 0, .int .i64 0, .int .i64 0, .int .i64 0, .bool false, .slice none 0 0, .slice none 0 0] 40)).heap.size = w.heap.size + 1 := by simp
  go_wp2_with fail
  obtain ⟨R, hR⟩ : ∃ R, R = w.heap.size := ⟨_, rfl⟩
  obtain ⟨w1, hw1⟩ : ∃ w1, w1 = w.alloc (.cells #[.int .i64 0, .int .i64 0, .int .i64 0, .int .i64 0, .bool false, .slice none 0 0, .slice none 0 0] 40) := ⟨_, rfl⟩
  rw [← hw1] at hres0 hr0 hk0 hs0 ⊢
  rw [← hR] at hres0 hs0 ⊢
  have hRge : w.heap.size ≤ R := by omega
  clear hw1
  obtain ⟨pt, hpt⟩ : ∃ pt, pt = kIs (.pointer (some ⟨B, 0, none⟩)) := ⟨_, rfl⟩
  refine wp_region_then (by kernel_rfl) (Up w1.heap.size) (Cls B p w1)
    (tab [(7, pt), (8, kInt 0 1), (9, pt), (10, kInt 0 3), (11, kInt 1 4), (12, pt), (13, kInt 0 63), (14, kRow w1.heap.size 4 1 4), (15, pt), (16, kInt 0 3), (17, kCell w1.heap.size 1 4), (18, kInt 1 4), (19, pt), (20, kInt 0 2), (21, kBool), (22, kAgg), (5, kBoxZ w1.heap.size)])
    17 _ [7, 8, 9, 10, 11, 12, 13, 14, 15, 16, 17, 18, 19, 20, 21, 22, 5] rfl rfl (by kernel_rfl) (by kernel_rfl) rfl (by kernel_rfl) (tab_stable (by simp [hpt, stable_any, stable_is, stable_int, stable_bool, stable_row, stable_cell, stable_agg, stable_boxZ])) ?_ ?_ ?_
  · exact ⟨p, by omega, hr0, (Keep.refl _ _).drew⟩
  · refine ops_cons (gd rfl <| ty_move_out (.inl rfl) rfl (by kernel_rfl) hpt (fun _ _ h => h.next) (Up.refl _)) ?_
    refine ops_cons (gd rfl <| ty_pick rfl rfl (by kernel_rfl) hpt rfl (by decide) (by decide) (by simp; omega) hr0.lt) ?_
    refine ops_cons (gd rfl <| ty_move_out (.inl rfl) rfl (by kernel_rfl) hpt (fun _ _ h => h.next) (Up.refl _)) ?_
    refine ops_cons (gd rfl <| ty_pick rfl rfl (by kernel_rfl) hpt rfl (by decide) (by decide) (by simp; omega) hr0.lt) ?_
    refine ops_cons (gd rfl <| tx_val rfl (fun i ρ W hi hat hW => ?_)) ?_
    · obtain ⟨x, ex, lx, ux⟩ : kInt 0 3 W (ρ (.tmp 10)) := hat.dep 10 (by kernel_rfl)
      exact ⟨.int .i64 (1 + x), W, by simp only [execOp, ex, hat.con]; go_simp; exact wrapI (by omega) (by omega), hW.next, Up.refl _ _, ⟨_, rfl, by omega, by omega⟩⟩
    refine ops_cons (gd rfl <| ty_move_out (.inl rfl) rfl (by kernel_rfl) hpt (fun _ _ h => h.next) (Up.refl _)) ?_
    refine ops_cons (gd rfl <| ty_addr rfl rfl (by kernel_rfl) hpt rfl (by simp; omega) hr0.lt) ?_
    refine ops_cons (gd rfl <| ty_build rfl rfl (fun _ _ o h => h.alloc o) (fun _ _ h => h.le) (fun ρ w hc hd => ?_)) ?_
    · exact ⟨[1, 1, 2, 4], rfl, by simp, by simp only [execOp, hc]; go_simp⟩
    refine ops_cons (gd rfl <| ty_move_out (.inl rfl) rfl (by kernel_rfl) hpt (fun _ _ h => h.next) (Up.refl _)) ?_
    refine ops_cons (gd rfl <| ty_pick rfl rfl (by kernel_rfl) hpt rfl (by decide) (by decide) (by simp; omega) hr0.lt) ?_
    refine ops_cons (gd rfl <| ty_index rfl rfl (by kernel_rfl) (by kernel_rfl) rfl rfl (by decide) (by decide) rfl (fun _ _ h => h.next)) ?_
    refine ops_cons (gd rfl <| ty_load rfl rfl (by kernel_rfl) rfl rfl (fun _ _ h => h.next)) ?_
    refine ops_cons (gd rfl <| ty_move_out (.inl rfl) rfl (by kernel_rfl) hpt (fun _ _ h => h.next) (Up.refl _)) ?_
    refine ops_cons (gd rfl <| ty_pick rfl rfl (by kernel_rfl) hpt rfl (by decide) (by decide) (by simp; omega) hr0.lt) ?_
    refine ops_cons (gd rfl <| ty_eqb rfl rfl (by kernel_rfl) rfl rfl (fun _ _ h => h.next)) ?_
    refine ops_cons (gd rfl <| tx_val rfl (fun i ρ W hi hat hW => ?_)) ?_
    · obtain ⟨x8, e8, _, _⟩ : kInt 0 1 W (ρ (.tmp 8)) := hat.dep 8 (by kernel_rfl)
      obtain ⟨x11, e11, _, _⟩ : kInt 1 4 W (ρ (.tmp 11)) := hat.dep 11 (by kernel_rfl)
      obtain ⟨x13, e13, l13, u13⟩ : kInt 0 63 W (ρ (.tmp 13)) := hat.dep 13 (by kernel_rfl)
      obtain ⟨x18, e18, l18, u18⟩ : kInt 1 4 W (ρ (.tmp 18)) := hat.dep 18 (by kernel_rfl)
      obtain ⟨x21, e21⟩ : kBool W (ρ (.tmp 21)) := hat.dep 21 (by kernel_rfl)
      exact ⟨.agg #[.int .i64 x8, .int .i64 x11, .int .i64 x13, .int .i64 x18, .bool x21, .slice none 0 0, .slice none 0 0], W, by simp only [execOp, e8, e11, e13, e18, e21]; go_simp, hW.next, Up.refl _ _, ⟨_, _, _, _, _, rfl, l13, u13, l18, u18⟩⟩
    refine ops_cons (gd rfl <| tx_val rfl (fun i ρ W hi hat hW => ?_)) ?_
    · refine ⟨.pointer (some ⟨W.heap.size, 0, none⟩), W.alloc (.cells #[.int .i64 0, .int .i64 0, .int .i64 0, .int .i64 0, .bool false, .slice none 0 0, .slice none 0 0] 40), by simp only [execOp]; go_simp, hW.alloc _, Up.alloc _ _ _, W.heap.size, rfl, hW.le, by show (W.heap.push _)[W.heap.size]? = _; simp⟩
    exact ops_nil
  intro f W hW hf
  obtain ⟨id, kind, addr, many, wrap, e22, ad0, ad1, my0, my1⟩ : kAgg W (f 22) := hf 22 (by simp)
  obtain ⟨Mb, e5, hMb, hbox⟩ : kBoxZ w1.heap.size W (f 5) := hf 5 (by simp)
  obtain ⟨pq, hpq, hrW, hkW⟩ := hW
  clear hf
  have hresW : W.heap[R]? = some (.cells #[.int .i64 0, .int .i64 0, .int .i64 0, .int .i64 0, .bool false, .slice none 0 0, .slice none 0 0] 40 (0, 0)) := (hkW.block R (by omega) (by omega)).trans hres0
  have hvb0 : VB B Mb R (p + 680) #[.int .i64 0, .int .i64 0, .int .i64 0, .int .i64 0, .bool false, .slice none 0 0, .slice none 0 0] #[.int .i64 0, .int .i64 0, .int .i64 0, .int .i64 0, .bool false, .slice none 0 0, .slice none 0 0] 40 w W := ⟨⟨pq, by omega, hrW⟩, hk0.trans hkW, hbox, hresW, hB, by omega, by omega, by omega⟩
  have hvb1 : VB B Mb R (p + 680) #[.int .i64 id, .int .i64 kind, .int .i64 addr, .int .i64 many, .bool wrap, .slice none 0 0, .slice none 0 0] #[.int .i64 0, .int .i64 0, .int .i64 0, .int .i64 0, .bool false, .slice none 0 0, .slice none 0 0] 40 w (((((((W.setCell ⟨Mb, 0, none⟩ (.int .i64 id)).setCell ⟨Mb, 1, none⟩ (.int .i64 kind)).setCell ⟨Mb, 2, none⟩ (.int .i64 addr)).setCell ⟨Mb, 3, none⟩ (.int .i64 many)).setCell ⟨Mb, 4, none⟩ (.bool wrap)).setCell ⟨Mb, 5, none⟩ (.slice none 0 0)).setCell ⟨Mb, 6, none⟩ (.slice none 0 0)) := by
    simpa using ((((((hvb0.set 0 (.int .i64 id)).set 1 (.int .i64 kind)).set 2 (.int .i64 addr)).set 3 (.int .i64 many)).set 4 (.bool wrap)).set 5 (.slice none 0 0)).set 6 (.slice none 0 0)
  have c0 : W.cell? ⟨Mb, 0, none⟩ = some (.int .i64 0) := heap_cell hvb0.box 0
  have c1 : W.cell? ⟨Mb, 1, none⟩ = some (.int .i64 0) := heap_cell hvb0.box 1
  have c2 : W.cell? ⟨Mb, 2, none⟩ = some (.int .i64 0) := heap_cell hvb0.box 2
  have c3 : W.cell? ⟨Mb, 3, none⟩ = some (.int .i64 0) := heap_cell hvb0.box 3
  have c4 : W.cell? ⟨Mb, 4, none⟩ = some (.bool false) := heap_cell hvb0.box 4
  have c5 : W.cell? ⟨Mb, 5, none⟩ = some (.slice none 0 0) := heap_cell hvb0.box 5
  have c6 : W.cell? ⟨Mb, 6, none⟩ = some (.slice none 0 0) := heap_cell hvb0.box 6
  have d0 : W.frozen? ⟨Mb, 0, none⟩ = false := heap_free hvb0.box 0
  have d1 : W.frozen? ⟨Mb, 1, none⟩ = false := heap_free hvb0.box 1
  have d2 : W.frozen? ⟨Mb, 2, none⟩ = false := heap_free hvb0.box 2
  have d3 : W.frozen? ⟨Mb, 3, none⟩ = false := heap_free hvb0.box 3
  have d4 : W.frozen? ⟨Mb, 4, none⟩ = false := heap_free hvb0.box 4
  have d5 : W.frozen? ⟨Mb, 5, none⟩ = false := heap_free hvb0.box 5
  have d6 : W.frozen? ⟨Mb, 6, none⟩ = false := heap_free hvb0.box 6
  have hq0 : QS B Mb R (p + 680) 0 w (((((((W.setCell ⟨Mb, 0, none⟩ (.int .i64 id)).setCell ⟨Mb, 1, none⟩ (.int .i64 kind)).setCell ⟨Mb, 2, none⟩ (.int .i64 addr)).setCell ⟨Mb, 3, none⟩ (.int .i64 many)).setCell ⟨Mb, 4, none⟩ (.bool wrap)).setCell ⟨Mb, 5, none⟩ (.slice none 0 0)).setCell ⟨Mb, 6, none⟩ (.slice none 0 0)) := ⟨id, kind, addr, many, wrap, _, _, hvb1, .inl rfl, .inl rfl, ad0, ad1, my0, my1⟩
  have HQ := Hid.intro hq0
  have HV := Hid.intro hvb1
  have x0 : (((((((W.setCell ⟨Mb, 0, none⟩ (.int .i64 id)).setCell ⟨Mb, 1, none⟩ (.int .i64 kind)).setCell ⟨Mb, 2, none⟩ (.int .i64 addr)).setCell ⟨Mb, 3, none⟩ (.int .i64 many)).setCell ⟨Mb, 4, none⟩ (.bool wrap)).setCell ⟨Mb, 5, none⟩ (.slice none 0 0)).setCell ⟨Mb, 6, none⟩ (.slice none 0 0)).cell? ⟨Mb, 0, none⟩ = some (.int .i64 id) := heap_cell hvb1.box 0
  have x1 : (((((((W.setCell ⟨Mb, 0, none⟩ (.int .i64 id)).setCell ⟨Mb, 1, none⟩ (.int .i64 kind)).setCell ⟨Mb, 2, none⟩ (.int .i64 addr)).setCell ⟨Mb, 3, none⟩ (.int .i64 many)).setCell ⟨Mb, 4, none⟩ (.bool wrap)).setCell ⟨Mb, 5, none⟩ (.slice none 0 0)).setCell ⟨Mb, 6, none⟩ (.slice none 0 0)).cell? ⟨Mb, 1, none⟩ = some (.int .i64 kind) := heap_cell hvb1.box 1
  have x2 : (((((((W.setCell ⟨Mb, 0, none⟩ (.int .i64 id)).setCell ⟨Mb, 1, none⟩ (.int .i64 kind)).setCell ⟨Mb, 2, none⟩ (.int .i64 addr)).setCell ⟨Mb, 3, none⟩ (.int .i64 many)).setCell ⟨Mb, 4, none⟩ (.bool wrap)).setCell ⟨Mb, 5, none⟩ (.slice none 0 0)).setCell ⟨Mb, 6, none⟩ (.slice none 0 0)).cell? ⟨Mb, 2, none⟩ = some (.int .i64 addr) := heap_cell hvb1.box 2
  have x3 : (((((((W.setCell ⟨Mb, 0, none⟩ (.int .i64 id)).setCell ⟨Mb, 1, none⟩ (.int .i64 kind)).setCell ⟨Mb, 2, none⟩ (.int .i64 addr)).setCell ⟨Mb, 3, none⟩ (.int .i64 many)).setCell ⟨Mb, 4, none⟩ (.bool wrap)).setCell ⟨Mb, 5, none⟩ (.slice none 0 0)).setCell ⟨Mb, 6, none⟩ (.slice none 0 0)).cell? ⟨Mb, 3, none⟩ = some (.int .i64 many) := heap_cell hvb1.box 3
  have x4 : (((((((W.setCell ⟨Mb, 0, none⟩ (.int .i64 id)).setCell ⟨Mb, 1, none⟩ (.int .i64 kind)).setCell ⟨Mb, 2, none⟩ (.int .i64 addr)).setCell ⟨Mb, 3, none⟩ (.int .i64 many)).setCell ⟨Mb, 4, none⟩ (.bool wrap)).setCell ⟨Mb, 5, none⟩ (.slice none 0 0)).setCell ⟨Mb, 6, none⟩ (.slice none 0 0)).cell? ⟨Mb, 4, none⟩ = some (.bool wrap) := heap_cell hvb1.box 4
  have x5 : (((((((W.setCell ⟨Mb, 0, none⟩ (.int .i64 id)).setCell ⟨Mb, 1, none⟩ (.int .i64 kind)).setCell ⟨Mb, 2, none⟩ (.int .i64 addr)).setCell ⟨Mb, 3, none⟩ (.int .i64 many)).setCell ⟨Mb, 4, none⟩ (.bool wrap)).setCell ⟨Mb, 5, none⟩ (.slice none 0 0)).setCell ⟨Mb, 6, none⟩ (.slice none 0 0)).cell? ⟨Mb, 5, none⟩ = some (.slice none 0 0) := heap_cell hvb1.box 5
  have x6 : (((((((W.setCell ⟨Mb, 0, none⟩ (.int .i64 id)).setCell ⟨Mb, 1, none⟩ (.int .i64 kind)).setCell ⟨Mb, 2, none⟩ (.int .i64 addr)).setCell ⟨Mb, 3, none⟩ (.int .i64 many)).setCell ⟨Mb, 4, none⟩ (.bool wrap)).setCell ⟨Mb, 5, none⟩ (.slice none 0 0)).setCell ⟨Mb, 6, none⟩ (.slice none 0 0)).cell? ⟨Mb, 6, none⟩ = some (.slice none 0 0) := heap_cell hvb1.box 6
  clear hR hres0 hresW hvb0 hvb1 hq0 hrW hkW hk0 hr0 hbox hs0 hRge hMb hpq
  simp only [fill, e5, e22]
  go_simp
  go_upto_if 25 with fail
  go_cut [] (fun wx => QS B Mb R (p + 1000) 0 w wx)
  case first =>
    obtain ⟨w2, hw2⟩ : ∃ w2, w2 = (((((((W.setCell ⟨Mb, 0, none⟩ (.int .i64 id)).setCell ⟨Mb, 1, none⟩ (.int .i64 kind)).setCell ⟨Mb, 2, none⟩ (.int .i64 addr)).setCell ⟨Mb, 3, none⟩ (.int .i64 many)).setCell ⟨Mb, 4, none⟩ (.bool wrap)).setCell ⟨Mb, 5, none⟩ (.slice none 0 0)).setCell ⟨Mb, 6, none⟩ (.slice none 0 0)) := ⟨_, rfl⟩
    rw [← hw2] at HV HQ x0 x1 x2 x3 x4 x5 x6 ⊢
    clear hw2 c0 c1 c2 c3 c4 c5 c6 d0 d1 d2 d3 d4 d5 d6
    by_cases h3 : 3 ≤ kind
    · have hd : decide (3 ≤ kind) = true := by simpa using h3
      have hvb := HV.out
      have d3 : w2.frozen? ⟨Mb, 3, none⟩ = false := heap_free hvb.box 3
      have hvb2 : VB B Mb R (p + 680) #[.int .i64 id, .int .i64 kind, .int .i64 addr, .int .i64 1, .bool wrap, (.slice none 0 0), (.slice none 0 0)] #[.int .i64 0, .int .i64 0, .int .i64 0, .int .i64 0, .bool false, .slice none 0 0, .slice none 0 0] 40 w (w2.setCell ⟨Mb, 3, none⟩ (.int .i64 1)) := by simpa using hvb.set 3 (.int .i64 1)
      go_wp2_with fail
      refine (pick_vb (hvb2.alloc _) (by omega) 4 (by omega) (by omega)).mono ?_
      rintro e w7 ⟨k7, ha7, hx7, rfl, hvb7, hK7⟩
      have hs6 := hvb2.keep.size
      simp at hs6
      have cl : ∀ i, w7.cell? ⟨w2.heap.size, i, none⟩ = _ := fun i => (hK7.cell (p := ⟨w2.heap.size, i, none⟩) (by simp) (by simp; omega)).trans (World.cell?_alloc_at _ _ _ _ (by simp))
      obtain ⟨u, hu0, hu1, hu⟩ := lit_at cl [0, 1, 16, 32] rfl 0 32 (by simp) k7 ha7 (by simpa using hx7)
      have hvb8 : VB B Mb R (p + 680 + 40 + 40) #[.int .i64 id, .int .i64 kind, .int .i64 u, .int .i64 1, .bool wrap, (.slice none 0 0), (.slice none 0 0)] #[.int .i64 0, .int .i64 0, .int .i64 0, .int .i64 0, .bool false, .slice none 0 0, .slice none 0 0] 40 w (w7.setCell ⟨Mb, 2, none⟩ (.int .i64 u)) := by simpa using hvb7.set 2 (.int .i64 u)
      have HE : Hid (QS B Mb R (p + 1000) 0 w (w7.setCell ⟨Mb, 2, none⟩ (.int .i64 u))) := ⟨_, _, _, _, _, _, _, hvb8.le (by omega), .inl rfl, .inl rfl, by omega, by omega, by omega, by omega⟩
      have cc : w7.cell? ⟨Mb, 2, none⟩ = some (.int .i64 addr) := heap_cell hvb7.box 2
      have dd : w7.frozen? ⟨Mb, 2, none⟩ = false := heap_free hvb7.box 2
      clear cl hvb hvb2 hvb7 hvb8 hK7 HV HQ
      go_wp2
      go_meet
      case rel => exact HE.out
    · have hd : decide (3 ≤ kind) = false := by simpa using h3
      have hqe : QS B Mb R (p + 1000) 0 w w2 := by
        obtain ⟨i1, i2, i3, i4, i5, i6, i7, i8, i9⟩ := HQ.out
        exact ⟨i1, i2, i3, i4, i5, i6, i7, i8.le (by omega), i9⟩
      have HE := Hid.intro hqe
      clear hqe HV HQ
      go_wp2
      go_meet
      case rel => exact HE.out
  case rest =>
    clear HV HQ x0 x1 x2 x3 x4 x5 x6 c0 c1 c2 c3 c4 c5 c6 d0 d1 d2 d3 d4 d5 d6 e5 e22 ad0 ad1 my0 my1
    obtain ⟨id, kind, addr, many, wrap, v5, v6, hvb, h5, h6, ad0, ad1, my0, my1⟩ := hcut
    have c0 : wc.cell? ⟨Mb, 0, none⟩ = some (.int .i64 id) := heap_cell hvb.box 0
    have c1 : wc.cell? ⟨Mb, 1, none⟩ = some (.int .i64 kind) := heap_cell hvb.box 1
    have c2 : wc.cell? ⟨Mb, 2, none⟩ = some (.int .i64 addr) := heap_cell hvb.box 2
    have c3 : wc.cell? ⟨Mb, 3, none⟩ = some (.int .i64 many) := heap_cell hvb.box 3
    have c4 : wc.cell? ⟨Mb, 4, none⟩ = some (.bool wrap) := heap_cell hvb.box 4
    have c5 : wc.cell? ⟨Mb, 5, none⟩ = some v5 := heap_cell hvb.box 5
    have c6 : wc.cell? ⟨Mb, 6, none⟩ = some v6 := heap_cell hvb.box 6
    have d0 : wc.frozen? ⟨Mb, 0, none⟩ = false := heap_free hvb.box 0
    have d1 : wc.frozen? ⟨Mb, 1, none⟩ = false := heap_free hvb.box 1
    have d2 : wc.frozen? ⟨Mb, 2, none⟩ = false := heap_free hvb.box 2
    have d3 : wc.frozen? ⟨Mb, 3, none⟩ = false := heap_free hvb.box 3
    have d4 : wc.frozen? ⟨Mb, 4, none⟩ = false := heap_free hvb.box 4
    have d5 : wc.frozen? ⟨Mb, 5, none⟩ = false := heap_free hvb.box 5
    have d6 : wc.frozen? ⟨Mb, 6, none⟩ = false := heap_free hvb.box 6
    have HV := Hid.intro hvb
    have H5 := Hid.intro h5
    have H6 := Hid.intro h6
    clear hvb h5 h6
    go_upto_region 5 with fail
    obtain ⟨wa, hwa⟩ : ∃ wa, wa = wc := ⟨_, rfl⟩
    subst hwa
    go_cut [44] (fun s44 wx => wx = wa ∧ ∃ b : Bool, s44 = .bool b)
    case first =>
      cases wrap
      · go_wp2
        go_meet
        case rel => exact ⟨rfl, _, rfl⟩
      · go_wp2
        go_meet
        case rel => exact ⟨rfl, _, rfl⟩
    case rest =>
      obtain ⟨hwe, b44, rfl⟩ := hcut
      subst hwe
      go_upto_if 44 with fail
      go_cut [] (fun wx => QS B Mb R (p + 1000) 0 w wx)
      case first =>
        cases b44
        · have HE : Hid (QS B Mb R (p + 1000) 0 w wc) := ⟨_, _, _, _, _, _, _, HV.out, H5.out, H6.out, ad0, ad1, my0, my1⟩
          clear HV H5 H6
          go_wp2
          go_meet
          case rel => exact HE.out
        · have hvb8 : VB B Mb R (p + 1000) #[.int .i64 id, .int .i64 kind, .int .i64 (63 - many + 1), .int .i64 many, .bool wrap, v5, v6] #[.int .i64 0, .int .i64 0, .int .i64 0, .int .i64 0, .bool false, .slice none 0 0, .slice none 0 0] 40 w (wc.setCell ⟨Mb, 2, none⟩ (.int .i64 (63 - many + 1))) := by simpa using HV.out.set 2 (.int .i64 (63 - many + 1))
          have HE : Hid (QS B Mb R (p + 1000) 0 w (wc.setCell ⟨Mb, 2, none⟩ (.int .i64 (63 - many + 1)))) := ⟨_, _, _, _, _, _, _, hvb8, H5.out.ri (HV.out.ri_set (by decide) _ _), H6.out.ri (HV.out.ri_set (by decide) _ _), by omega, by omega, my0, my1⟩
          clear HV H5 H6 hvb8
          go_wp2
          go_meet
          case rel => exact HE.out
      case rest =>
        clear HV H5 H6 c0 c1 c2 c3 c4 c5 c6 d0 d1 d2 d3 d4 d5 d6 ad0 ad1 my0 my1
        obtain ⟨id, kind, addr, many, wrap, v5, v6, hvb, h5, h6, ad0, ad1, my0, my1⟩ := hcut
        have c0 : wc.cell? ⟨Mb, 0, none⟩ = some (.int .i64 id) := heap_cell hvb.box 0
        have c1 : wc.cell? ⟨Mb, 1, none⟩ = some (.int .i64 kind) := heap_cell hvb.box 1
        have c2 : wc.cell? ⟨Mb, 2, none⟩ = some (.int .i64 addr) := heap_cell hvb.box 2
        have c3 : wc.cell? ⟨Mb, 3, none⟩ = some (.int .i64 many) := heap_cell hvb.box 3
        have c4 : wc.cell? ⟨Mb, 4, none⟩ = some (.bool wrap) := heap_cell hvb.box 4
        have c5 : wc.cell? ⟨Mb, 5, none⟩ = some v5 := heap_cell hvb.box 5
        have c6 : wc.cell? ⟨Mb, 6, none⟩ = some v6 := heap_cell hvb.box 6
        have d0 : wc.frozen? ⟨Mb, 0, none⟩ = false := heap_free hvb.box 0
        have d1 : wc.frozen? ⟨Mb, 1, none⟩ = false := heap_free hvb.box 1
        have d2 : wc.frozen? ⟨Mb, 2, none⟩ = false := heap_free hvb.box 2
        have d3 : wc.frozen? ⟨Mb, 3, none⟩ = false := heap_free hvb.box 3
        have d4 : wc.frozen? ⟨Mb, 4, none⟩ = false := heap_free hvb.box 4
        have d5 : wc.frozen? ⟨Mb, 5, none⟩ = false := heap_free hvb.box 5
        have d6 : wc.frozen? ⟨Mb, 6, none⟩ = false := heap_free hvb.box 6
        have HV := Hid.intro hvb
        have H5 := Hid.intro h5
        have H6 := Hid.intro h6
        clear hvb h5 h6
        go_upto_region 7 with fail
        obtain ⟨wb, hwb⟩ : ∃ wb, wb = wc := ⟨_, rfl⟩
        subst hwb
        go_cut [57] (fun s57 wx => wx = wb ∧ ∃ b : Bool, s57 = .bool b)
        case first =>
          cases hk2 : (kind == 2)
          · go_wp2
            go_meet
            case rel => exact ⟨rfl, _, rfl⟩
          · go_wp2
            go_meet
            case rel => exact ⟨rfl, _, rfl⟩
        case rest =>
          obtain ⟨hwe, b57, rfl⟩ := hcut
          subst hwe
          go_upto_if 57 with fail
          go_cut [] (fun wx => QE B Mb R (p + 6000) 4 w wx)
          case first =>
            cases b57
            · have HE : Hid (QE B Mb R (p + 6000) 4 w wc) := ⟨_, _, _, _, _, _, _, HV.out.le (by omega), H5.out.mono (by omega), H6.out.mono (by omega)⟩
              clear HV H5 H6
              go_wp2
              go_meet
              case rel => exact HE.out
            · obtain ⟨m, rfl⟩ := Int.eq_ofNat_of_zero_le (show 0 ≤ many by omega)
              go_wp2_with fail
              go_loopw [6] (fun i wr => ∃ (j : Nat) (v5 v6 : Value), j ≤ m ∧ i = .int .i64 j ∧ VB B Mb R (p + 1000 + 1100 * j) #[.int .i64 id, .int .i64 kind, .int .i64 addr, .int .i64 (m : Int), .bool wrap, v5, v6] #[.int .i64 0, .int .i64 0, .int .i64 0, .int .i64 0, .bool false, .slice none 0 0, .slice none 0 0] 40 w wr ∧ kIR w.heap.size j wr v5 ∧ kIR w.heap.size j wr v6) (fun i _ => m - (intOf i).toNat)
              case atStart => exact ⟨0, _, _, by omega, rfl, HV.out.le (by omega), H5.out, H6.out⟩
              case round =>
                clear HV H5 H6 c0 c1 c2 c3 c4 c5 c6 d0 d1 d2 d3 d4 d5 d6
                obtain ⟨j, v5, v6, hj, rfl, hvb, h5, h6⟩ := hrel
                have hm4 : m ≤ 4 := by omega
                obtain ⟨P, hP⟩ : ∃ P, P = p + 1000 + 1100 * j := ⟨_, rfl⟩
                rw [← hP] at hvb
                have hP' : P ≤ p + 5400 := by omega
                have c3 : wr.cell? ⟨Mb, 3, none⟩ = some (.int .i64 (m : Int)) := heap_cell hvb.box 3
                by_cases hlt : j < m
                · have hI : (j : Int) < (m : Int) := by omega
                  go_wp2_with fail
                  have hsz := hvb.keep.size
                  have hX : ∀ w1 w2, RI w.heap.size w1 w2 → (kIR w.heap.size j w1 v5 ∧ kIR w.heap.size j w1 v6) → (kIR w.heap.size j w2 v5 ∧ kIR w.heap.size j w2 v6) := fun _ _ hr h => ⟨h.1.ri hr, h.2.ri hr⟩
                  have hold : ∀ g n cap, v5 = .slice (some ⟨g, 0, none⟩) n cap → g < wr.heap.size := fun g n cap e => by
                    rcases h5 with h | ⟨g', n', c', e', _, _, _, hp⟩
                    · rw [h] at e; cases e
                    · rw [e'] at e; cases e; exact hp.lt
                  obtain ⟨pt, hpt⟩ : ∃ pt, pt = kIs (.pointer (some ⟨B, 0, none⟩)) := ⟨_, rfl⟩
                  refine wp_region_then (by kernel_rfl) (RR wr.heap.size w.heap.size)
                    (VC B Mb R P #[.int .i64 id, .int .i64 kind, .int .i64 addr, .int .i64 (m : Int), .bool wrap, v5, v6] #[.int .i64 0, .int .i64 0, .int .i64 0, .int .i64 0, .bool false, .slice none 0 0, .slice none 0 0] 40 w (fun W => kIR w.heap.size j W v5 ∧ kIR w.heap.size j W v6) wr.heap.size)
                    (tab [(64, kIs (.pointer (some ⟨Mb, 5, none⟩))), (65, kIs v5), (66, pt), (67, kInt 0 255), (68, kInt 0 65535), (69, pt), (70, kInt 0 9), (71, kRow wr.heap.size 4 0 65535), (72, pt), (73, kInt 0 3), (74, kCell wr.heap.size 0 65535), (75, kInt 0 65535), (76, kRow wr.heap.size 1 0 65535), (77, kIR w.heap.size (j + 1)), (78, kIs (.pointer (some ⟨Mb, 5, none⟩)))])
                    15 _ [64, 65, 66, 67, 68, 69, 70, 71, 72, 73, 74, 75, 76, 77, 78] rfl rfl (by kernel_rfl) (by kernel_rfl) rfl (by kernel_rfl) ?_ ?_ ?_ ?_
                  · refine tabR_stable ?_
                    intro x hx
                    simp [hpt] at hx
                    rcases hx with rfl | rfl | rfl | rfl | rfl | rfl | rfl | rfl | rfl | rfl | rfl | rfl | rfl | rfl | rfl
                    all_goals intro w1 w2 u hr hu
                    all_goals first | exact hu | exact stable_row _ _ _ _ _ _ _ hr.1 hu | exact stable_cell _ _ _ _ _ _ hr.1 hu | exact kIR.ri hu hr.2
                  · exact ⟨hvb.drew, ⟨h5, h6⟩, Nat.le_refl _⟩
                  · refine ops_cons (gd rfl <| tx_pure rfl rfl (fun k W h => h.next) (RR.refl _ _) (fun i ρ W hat hW => ?_)) ?_
                    · have e2 := hat.out 5 (by kernel_rfl)
                      simp [Act.eval] at e2
                      simp only [execOp, e2]; go_simp
                    refine ops_cons (gd rfl <| tx_pure rfl rfl (fun k W h => h.next) (RR.refl _ _) (fun i ρ W hat hW => ?_)) ?_
                    · have e2 : ρ (.tmp 64) = _ := hat.dep 64 (by kernel_rfl)
                      have e1 : W.cell? ⟨Mb, 5, none⟩ = some v5 := heap_cell hW.1.box 5
                      simp only [execOp, e2]; go_simp
                    refine ops_cons (gd rfl <| ty_move_out (.inl rfl) rfl (by kernel_rfl) hpt (fun k W h => h.next) (RR.refl _ _)) ?_
                    refine ops_cons (gd rfl <| vc_pick hX hsz rfl rfl (by kernel_rfl) hpt rfl (by decide) (by decide) (by simp; omega)) ?_
                    refine ops_cons (gd rfl <| tx_val rfl (fun i ρ W hi hat hW => ?_)) ?_
                    · obtain ⟨x, ex, lx, ux⟩ : kInt 0 255 W (ρ (.tmp 67)) := hat.dep 67 (by kernel_rfl)
                      exact ⟨.int .i64 (x * 257), W, by simp only [execOp, ex, hat.con]; go_simp; exact wrapI (by omega) (by omega), hW.next, RR.refl _ _ _, ⟨_, rfl, by omega, by omega⟩⟩
                    refine ops_cons (gd rfl <| ty_move_out (.inl rfl) rfl (by kernel_rfl) hpt (fun k W h => h.next) (RR.refl _ _)) ?_
                    refine ops_cons (gd rfl <| vc_pick hX hsz rfl rfl (by kernel_rfl) hpt rfl (by decide) (by decide) (by simp; omega)) ?_
                    refine ops_cons (gd rfl <| vc_build hX rfl rfl (fun ρ W hat => ?_)) ?_
                    · obtain ⟨x, ex, lx, ux⟩ : kInt 0 65535 W (ρ (.tmp 68)) := hat.dep 68 (by kernel_rfl)
                      obtain ⟨y, ey, ly, uy⟩ : kInt 0 9 W (ρ (.tmp 70)) := hat.dep 70 (by kernel_rfl)
                      have hcn := hat.con
                      exact ⟨[x, y, 65535, 0], rfl, by simp; omega, by simp only [execOp, ex, ey]; go_simp⟩
                    refine ops_cons (gd rfl <| ty_move_out (.inl rfl) rfl (by kernel_rfl) hpt (fun k W h => h.next) (RR.refl _ _)) ?_
                    refine ops_cons (gd rfl <| vc_pick hX hsz rfl rfl (by kernel_rfl) hpt rfl (by decide) (by decide) (by simp; omega)) ?_
                    refine ops_cons (gd rfl <| vc_index rfl rfl (by kernel_rfl) (by kernel_rfl) rfl rfl (by decide) (by decide) rfl) ?_
                    refine ops_cons (gd rfl <| vc_load rfl rfl (by kernel_rfl) rfl rfl) ?_
                    refine ops_cons (gd rfl <| vc_build hX rfl rfl (fun ρ W hat => ?_)) ?_
                    · obtain ⟨x, ex, lx, ux⟩ : kInt 0 65535 W (ρ (.tmp 75)) := hat.dep 75 (by kernel_rfl)
                      exact ⟨[x], rfl, by simp; omega, by simp only [execOp, ex]; go_simp⟩
                    refine ops_cons (gd rfl <| vc_app hX (fun _ h => h.1) (by decide) hsz rfl rfl (by kernel_rfl) (by kernel_rfl) rfl rfl rfl (by omega) hold) ?_
                    refine ops_cons (gd rfl <| tx_pure rfl rfl (fun k W h => h.next) (RR.refl _ _) (fun i ρ W hat hW => ?_)) ?_
                    · have e2 := hat.out 5 (by kernel_rfl)
                      simp [Act.eval] at e2
                      simp only [execOp, e2]; go_simp
                    exact ops_nil
                  intro f W hW hf
                  have e78 : f 78 = .pointer (some ⟨Mb, 5, none⟩) := hf 78 (by simp)
                  have e77 : kIR w.heap.size (j + 1) W (f 77) := hf 77 (by simp)
                  clear hf
                  have hvb2 : VB B Mb R (P + 600) #[.int .i64 id, .int .i64 kind, .int .i64 addr, .int .i64 (m : Int), .bool wrap, (f 77), v6] #[.int .i64 0, .int .i64 0, .int .i64 0, .int .i64 0, .bool false, .slice none 0 0, .slice none 0 0] 40 w (W.setCell ⟨Mb, 5, none⟩ (f 77)) := by simpa using hW.1.set 5 (f 77)
                  have h52 : kIR w.heap.size (j + 1) (W.setCell ⟨Mb, 5, none⟩ (f 77)) (f 77) := e77.ri (hW.1.ri_set (by decide) _ _)
                  have h62 : kIR w.heap.size j (W.setCell ⟨Mb, 5, none⟩ (f 77)) v6 := hW.2.1.2.ri (hW.1.ri_set (by decide) _ _)
                  obtain ⟨pd, xs, cap, e, _⟩ := e77.ints
                  have cc : W.cell? ⟨Mb, 5, none⟩ = some v5 := heap_cell hW.1.box 5
                  have dd : W.frozen? ⟨Mb, 5, none⟩ = false := heap_free hW.1.box 5
                  rw [e] at hvb2 h52 h62
                  have HV := Hid.intro hvb2
                  have H5 := Hid.intro h52
                  have H6 := Hid.intro h62
                  clear hvb hvb2 h5 h6 h52 h62 hW e77 hX hold c3
                  simp only [fill, e78, e]
                  go_simp
                  go_wp2_with fail
                  generalize W.setCell ⟨Mb, 5, none⟩ (.slice pd xs.length cap) = wr2 at *
                  have hvb := HV.out
                  have h5 := H5.out
                  have h6 := H6.out
                  generalize (Value.slice pd xs.length cap) = y5 at *
                  clear HV H5 H6 cc dd
                  have hsz2 := hvb.keep.size
                  have hX : ∀ w1 w2, RI w.heap.size w1 w2 → (kIR w.heap.size (j + 1) w1 y5 ∧ kIR w.heap.size j w1 v6) → (kIR w.heap.size (j + 1) w2 y5 ∧ kIR w.heap.size j w2 v6) := fun _ _ hr h => ⟨h.1.ri hr, h.2.ri hr⟩
                  have hold : ∀ g n cap, v6 = .slice (some ⟨g, 0, none⟩) n cap → g < wr2.heap.size := fun g n cap e => by
                    rcases h6 with h | ⟨g', n', c', e', _, _, _, hp⟩
                    · rw [h] at e; cases e
                    · rw [e'] at e; cases e; exact hp.lt
                  refine wp_region_then (by kernel_rfl) (RR wr2.heap.size w.heap.size)
                    (VC B Mb R (P + 600) #[.int .i64 id, .int .i64 kind, .int .i64 addr, .int .i64 (m : Int), .bool wrap, y5, v6] #[.int .i64 0, .int .i64 0, .int .i64 0, .int .i64 0, .bool false, .slice none 0 0, .slice none 0 0] 40 w (fun W => kIR w.heap.size (j + 1) W y5 ∧ kIR w.heap.size j W v6) wr2.heap.size)
                    (tab [(79, kIs (.pointer (some ⟨Mb, 6, none⟩))), (80, kIs v6), (81, kRow wr2.heap.size 5 0 3), (82, pt), (83, kInt 0 4), (84, kCell wr2.heap.size 0 3), (85, kInt 0 3), (86, kRow wr2.heap.size 1 0 3), (87, kIR w.heap.size (j + 1)), (88, kIs (.pointer (some ⟨Mb, 6, none⟩)))])
                    10 _ [79, 80, 81, 82, 83, 84, 85, 86, 87, 88] rfl rfl (by kernel_rfl) (by kernel_rfl) rfl (by kernel_rfl) ?_ ?_ ?_ ?_
                  · refine tabR_stable ?_
                    intro x hx
                    simp [hpt] at hx
                    rcases hx with rfl | rfl | rfl | rfl | rfl | rfl | rfl | rfl | rfl | rfl
                    all_goals intro w1 w2 u hr hu
                    all_goals first | exact hu | exact stable_row _ _ _ _ _ _ _ hr.1 hu | exact stable_cell _ _ _ _ _ _ hr.1 hu | exact kIR.ri hu hr.2
                  · exact ⟨hvb.drew, ⟨h5, h6⟩, Nat.le_refl _⟩
                  · refine ops_cons (gd rfl <| tx_pure rfl rfl (fun k W h => h.next) (RR.refl _ _) (fun i ρ W hat hW => ?_)) ?_
                    · have e2 := hat.out 5 (by kernel_rfl)
                      simp [Act.eval] at e2
                      simp only [execOp, e2]; go_simp
                    refine ops_cons (gd rfl <| tx_pure rfl rfl (fun k W h => h.next) (RR.refl _ _) (fun i ρ W hat hW => ?_)) ?_
                    · have e2 : ρ (.tmp 79) = _ := hat.dep 79 (by kernel_rfl)
                      have e1 : W.cell? ⟨Mb, 6, none⟩ = some v6 := heap_cell hW.1.box 6
                      simp only [execOp, e2]; go_simp
                    refine ops_cons (gd rfl <| vc_build hX rfl rfl (fun ρ W hat => ?_)) ?_
                    · have hcn := hat.con
                      exact ⟨[3, 3, 1, 2, 0], rfl, by simp, by simp only [execOp]; go_simp⟩
                    refine ops_cons (gd rfl <| ty_move_out (.inl rfl) rfl (by kernel_rfl) hpt (fun k W h => h.next) (RR.refl _ _)) ?_
                    refine ops_cons (gd rfl <| vc_pick hX hsz2 rfl rfl (by kernel_rfl) hpt rfl (by decide) (by decide) (by simp; omega)) ?_
                    refine ops_cons (gd rfl <| vc_index rfl rfl (by kernel_rfl) (by kernel_rfl) rfl rfl (by decide) (by decide) rfl) ?_
                    refine ops_cons (gd rfl <| vc_load rfl rfl (by kernel_rfl) rfl rfl) ?_
                    refine ops_cons (gd rfl <| vc_build hX rfl rfl (fun ρ W hat => ?_)) ?_
                    · obtain ⟨x, ex, lx, ux⟩ : kInt 0 3 W (ρ (.tmp 85)) := hat.dep 85 (by kernel_rfl)
                      exact ⟨[x], rfl, by simp; omega, by simp only [execOp, ex]; go_simp⟩
                    refine ops_cons (gd rfl <| vc_app hX (fun _ h => h.2) (by decide) hsz2 rfl rfl (by kernel_rfl) (by kernel_rfl) rfl rfl rfl (by omega) hold) ?_
                    refine ops_cons (gd rfl <| tx_pure rfl rfl (fun k W h => h.next) (RR.refl _ _) (fun i ρ W hat hW => ?_)) ?_
                    · have e2 := hat.out 5 (by kernel_rfl)
                      simp [Act.eval] at e2
                      simp only [execOp, e2]; go_simp
                    exact ops_nil
                  intro f2 W2 hW hf
                  have e88 : f2 88 = .pointer (some ⟨Mb, 6, none⟩) := hf 88 (by simp)
                  have e87 : kIR w.heap.size (j + 1) W2 (f2 87) := hf 87 (by simp)
                  clear hf
                  have hvb2 : VB B Mb R (P + 600 + 400) #[.int .i64 id, .int .i64 kind, .int .i64 addr, .int .i64 (m : Int), .bool wrap, y5, (f2 87)] #[.int .i64 0, .int .i64 0, .int .i64 0, .int .i64 0, .bool false, .slice none 0 0, .slice none 0 0] 40 w (W2.setCell ⟨Mb, 6, none⟩ (f2 87)) := by simpa using hW.1.set 6 (f2 87)
                  have h62 : kIR w.heap.size (j + 1) (W2.setCell ⟨Mb, 6, none⟩ (f2 87)) (f2 87) := e87.ri (hW.1.ri_set (by decide) _ _)
                  have h52 : kIR w.heap.size (j + 1) (W2.setCell ⟨Mb, 6, none⟩ (f2 87)) y5 := hW.2.1.1.ri (hW.1.ri_set (by decide) _ _)
                  obtain ⟨pl, ys, cap2, e', _⟩ := e87.ints
                  have cc : W2.cell? ⟨Mb, 6, none⟩ = some v6 := heap_cell hW.1.box 6
                  have dd : W2.frozen? ⟨Mb, 6, none⟩ = false := heap_free hW.1.box 6
                  rw [e'] at hvb2 h52 h62
                  have HV := Hid.intro hvb2
                  have H5 := Hid.intro h52
                  have H6 := Hid.intro h62
                  clear hvb hvb2 h5 h6 h52 h62 hW e87 hX hold
                  simp only [fill, e88, e']
                  go_simp
                  go_wp2
                  go_roundw
                  case rel => exact ⟨j + 1, _, _, by omega, by go_num, HV.out.le (by omega), H5.out, H6.out⟩
                  case measure => simp [intOf]; omega
                · have hI : ¬ (j : Int) < (m : Int) := by omega
                  have HE : Hid (QE B Mb R (p + 6000) 4 w wr) := ⟨_, _, _, _, _, _, _, hvb.le (by omega), h5.mono (by omega), h6.mono (by omega)⟩
                  clear hvb h5 h6
                  go_wp2
                  go_meet
                  case rel => exact HE.out
          case rest =>
            clear HV H5 H6 c0 c1 c2 c3 c4 c5 c6 d0 d1 d2 d3 d4 d5 d6 ad0 ad1 my0 my1
            obtain ⟨id, kind, addr, many, wrap, v5, v6, hvb, h5, h6⟩ := hcut
            go_wp2_with fail
            refine (odd_vb2 hvb (by omega) n hn hn').mono ?_
            rintro e w5 ⟨bo, rfl, hvb5, hK5⟩
            have h55 := h5.ri (ri_keep hB hK5)
            have h65 := h6.ri (ri_keep hB hK5)
            clear hvb h5 h6 hK5
            obtain ⟨P, hP⟩ : ∃ P, P = p + 6000 := ⟨_, rfl⟩
            rw [← hP] at hvb5
            go_upto_if 91 with fail
            go_cut [] (fun wx => QE B Mb R (p + 10000) 5 w wx)
            case first =>
              cases bo
              · have HE : Hid (QE B Mb R (p + 10000) 5 w w5) := ⟨_, _, _, _, _, _, _, hvb5.le (by omega), h55.mono (by omega), h65.mono (by omega)⟩
                clear hvb5 h55 h65
                go_wp2
                go_meet
                case rel => exact HE.out
              · go_wp2_with fail
                refine (pick_vb hvb5 (by omega) 7 (by omega) (by omega)).mono ?_
                rintro e w6 ⟨q, hq0, hq1, rfl, hvb6, hK6⟩
                have h56 := h55.ri (ri_keep hB hK6)
                have h66 := h65.ri (ri_keep hB hK6)
                clear hvb5 h55 h65 hK6
                have hq : q = 0 ∨ q = 1 ∨ q = 2 ∨ q = 3 ∨ q = 4 ∨ q = 5 ∨ q = 6 := by omega
                rcases hq with rfl | rfl | rfl | rfl | rfl | rfl | rfl
                · go_wp2_with fail
                  refine (pick_vb (hvb6.alloc _) (by omega) 2 (by omega) (by omega)).mono ?_
                  rintro e w7 ⟨k7, ha7, hx7, rfl, hvb7, hK7⟩
                  have hs6 := hvb6.keep.size
                  have cl : ∀ i, w7.cell? ⟨w6.heap.size, i, none⟩ = _ := fun i => (hK7.cell (p := ⟨w6.heap.size, i, none⟩) (by simp) (by simp; omega)).trans (World.cell?_alloc_at _ _ _ _ rfl)
                  obtain ⟨u, hu0, hu1, hu⟩ := lit_at cl [-1, 2] rfl (-1) 64 (by simp) k7 ha7 (by simpa using hx7)
                  have h57 := (h56.ri (ri_alloc _ _ _)).ri (ri_keep hB hK7)
                  have h67 := (h66.ri (ri_alloc _ _ _)).ri (ri_keep hB hK7)
                  have hvb8 : VB B Mb R (P + 40 + 40 + 40 + 40) #[.int .i64 u, .int .i64 kind, .int .i64 addr, .int .i64 many, .bool wrap, v5, v6] #[.int .i64 0, .int .i64 0, .int .i64 0, .int .i64 0, .bool false, .slice none 0 0, .slice none 0 0] 40 w (w7.setCell ⟨Mb, 0, none⟩ (.int .i64 u)) := by simpa using hvb7.set 0 (.int .i64 u)
                  have h58 := h57.ri (hvb7.ri_set (by decide) 0 (.int .i64 u))
                  have h68 := h67.ri (hvb7.ri_set (by decide) 0 (.int .i64 u))
                  have HE : Hid (QE B Mb R (p + 10000) 5 w (w7.setCell ⟨Mb, 0, none⟩ (.int .i64 u))) := ⟨_, _, _, _, _, _, _, hvb8.le (by omega), h58.mono (by omega), h68.mono (by omega)⟩
                  have cc : w7.cell? ⟨Mb, 0, none⟩ = some (.int .i64 id) := heap_cell hvb7.box 0
                  have dd : w7.frozen? ⟨Mb, 0, none⟩ = false := heap_free hvb7.box 0
                  clear cl hvb6 h56 h66 hvb7 h57 h67 hvb8 h58 h68 hK7
                  go_wp2
                  go_meet
                  case rel => exact HE.out
                · go_wp2_with fail
                  refine (pick_vb (hvb6.alloc _) (by omega) 2 (by omega) (by omega)).mono ?_
                  rintro e w7 ⟨k7, ha7, hx7, rfl, hvb7, hK7⟩
                  have hs6 := hvb6.keep.size
                  have cl : ∀ i, w7.cell? ⟨w6.heap.size, i, none⟩ = _ := fun i => (hK7.cell (p := ⟨w6.heap.size, i, none⟩) (by simp) (by simp; omega)).trans (World.cell?_alloc_at _ _ _ _ rfl)
                  obtain ⟨u, hu0, hu1, hu⟩ := lit_at cl [0, 5] rfl (-1) 64 (by simp) k7 ha7 (by simpa using hx7)
                  have h57 := (h56.ri (ri_alloc _ _ _)).ri (ri_keep hB hK7)
                  have h67 := (h66.ri (ri_alloc _ _ _)).ri (ri_keep hB hK7)
                  have hvb8 : VB B Mb R (P + 40 + 40 + 40 + 40) #[.int .i64 id, .int .i64 u, .int .i64 addr, .int .i64 many, .bool wrap, v5, v6] #[.int .i64 0, .int .i64 0, .int .i64 0, .int .i64 0, .bool false, .slice none 0 0, .slice none 0 0] 40 w (w7.setCell ⟨Mb, 1, none⟩ (.int .i64 u)) := by simpa using hvb7.set 1 (.int .i64 u)
                  have h58 := h57.ri (hvb7.ri_set (by decide) 1 (.int .i64 u))
                  have h68 := h67.ri (hvb7.ri_set (by decide) 1 (.int .i64 u))
                  have HE : Hid (QE B Mb R (p + 10000) 5 w (w7.setCell ⟨Mb, 1, none⟩ (.int .i64 u))) := ⟨_, _, _, _, _, _, _, hvb8.le (by omega), h58.mono (by omega), h68.mono (by omega)⟩
                  have cc : w7.cell? ⟨Mb, 1, none⟩ = some (.int .i64 kind) := heap_cell hvb7.box 1
                  have dd : w7.frozen? ⟨Mb, 1, none⟩ = false := heap_free hvb7.box 1
                  clear cl hvb6 h56 h66 hvb7 h57 h67 hvb8 h58 h68 hK7
                  go_wp2
                  go_meet
                  case rel => exact HE.out
                · go_wp2_with fail
                  refine (pick_vb (hvb6.alloc _) (by omega) 3 (by omega) (by omega)).mono ?_
                  rintro e w7 ⟨k7, ha7, hx7, rfl, hvb7, hK7⟩
                  have hs6 := hvb6.keep.size
                  have cl : ∀ i, w7.cell? ⟨w6.heap.size, i, none⟩ = _ := fun i => (hK7.cell (p := ⟨w6.heap.size, i, none⟩) (by simp) (by simp; omega)).trans (World.cell?_alloc_at _ _ _ _ rfl)
                  obtain ⟨u, hu0, hu1, hu⟩ := lit_at cl [-1, 64, 63] rfl (-1) 64 (by simp) k7 ha7 (by simpa using hx7)
                  have h57 := (h56.ri (ri_alloc _ _ _)).ri (ri_keep hB hK7)
                  have h67 := (h66.ri (ri_alloc _ _ _)).ri (ri_keep hB hK7)
                  have hvb8 : VB B Mb R (P + 40 + 40 + 40 + 40) #[.int .i64 id, .int .i64 kind, .int .i64 u, .int .i64 many, .bool wrap, v5, v6] #[.int .i64 0, .int .i64 0, .int .i64 0, .int .i64 0, .bool false, .slice none 0 0, .slice none 0 0] 40 w (w7.setCell ⟨Mb, 2, none⟩ (.int .i64 u)) := by simpa using hvb7.set 2 (.int .i64 u)
                  have h58 := h57.ri (hvb7.ri_set (by decide) 2 (.int .i64 u))
                  have h68 := h67.ri (hvb7.ri_set (by decide) 2 (.int .i64 u))
                  have HE : Hid (QE B Mb R (p + 10000) 5 w (w7.setCell ⟨Mb, 2, none⟩ (.int .i64 u))) := ⟨_, _, _, _, _, _, _, hvb8.le (by omega), h58.mono (by omega), h68.mono (by omega)⟩
                  have cc : w7.cell? ⟨Mb, 2, none⟩ = some (.int .i64 addr) := heap_cell hvb7.box 2
                  have dd : w7.frozen? ⟨Mb, 2, none⟩ = false := heap_free hvb7.box 2
                  clear cl hvb6 h56 h66 hvb7 h57 h67 hvb8 h58 h68 hK7
                  go_wp2
                  go_meet
                  case rel => exact HE.out
                · go_wp2_with fail
                  refine (pick_vb (hvb6.alloc _) (by omega) 4 (by omega) (by omega)).mono ?_
                  rintro e w7 ⟨k7, ha7, hx7, rfl, hvb7, hK7⟩
                  have hs6 := hvb6.keep.size
                  have cl : ∀ i, w7.cell? ⟨w6.heap.size, i, none⟩ = _ := fun i => (hK7.cell (p := ⟨w6.heap.size, i, none⟩) (by simp) (by simp; omega)).trans (World.cell?_alloc_at _ _ _ _ rfl)
                  obtain ⟨u, hu0, hu1, hu⟩ := lit_at cl [0, 3, 8, 4] rfl (-1) 64 (by simp) k7 ha7 (by simpa using hx7)
                  have h57 := (h56.ri (ri_alloc _ _ _)).ri (ri_keep hB hK7)
                  have h67 := (h66.ri (ri_alloc _ _ _)).ri (ri_keep hB hK7)
                  have hvb8 : VB B Mb R (P + 40 + 40 + 40 + 40) #[.int .i64 id, .int .i64 kind, .int .i64 addr, .int .i64 u, .bool wrap, v5, v6] #[.int .i64 0, .int .i64 0, .int .i64 0, .int .i64 0, .bool false, .slice none 0 0, .slice none 0 0] 40 w (w7.setCell ⟨Mb, 3, none⟩ (.int .i64 u)) := by simpa using hvb7.set 3 (.int .i64 u)
                  have h58 := h57.ri (hvb7.ri_set (by decide) 3 (.int .i64 u))
                  have h68 := h67.ri (hvb7.ri_set (by decide) 3 (.int .i64 u))
                  have HE : Hid (QE B Mb R (p + 10000) 5 w (w7.setCell ⟨Mb, 3, none⟩ (.int .i64 u))) := ⟨_, _, _, _, _, _, _, hvb8.le (by omega), h58.mono (by omega), h68.mono (by omega)⟩
                  have cc : w7.cell? ⟨Mb, 3, none⟩ = some (.int .i64 many) := heap_cell hvb7.box 3
                  have dd : w7.frozen? ⟨Mb, 3, none⟩ = false := heap_free hvb7.box 3
                  clear cl hvb6 h56 h66 hvb7 h57 h67 hvb8 h58 h68 hK7
                  go_wp2
                  go_meet
                  case rel => exact HE.out
                · have cc : w6.cell? ⟨Mb, 5, none⟩ = some v5 := heap_cell hvb6.box 5
                  have hs6 := hvb6.keep.size
                  have hlM := heap_lt hvb6.box
                  have hvb7 := hvb6.alloc (.cells #[.int .i64 5] 3)
                  have h57 := h56.ri (ri_alloc w.heap.size w6 (.cells #[.int .i64 5] 3))
                  have h67 := h66.ri (ri_alloc w.heap.size w6 (.cells #[.int .i64 5] 3))
                  go_wp2_with (at_builtin; refine wpList_app1 (M := w.heap.size) (N := 4) rfl rfl h57 rfl (u := 5) (by simp) (by omega) (by simp <;> omega) ?_; intro v' w8 hv' hA8; obtain ⟨pd, nn, cap, e8, c8, d8, HE⟩ := app_q5 (p0 := p) hvb7 h67 hv' hA8 (by omega); clear hvb6 h56 h66 hvb7 h57 h67 hv' hA8; subst e8)
                  go_meet
                  case rel => exact HE.out
                · have cc : w6.cell? ⟨Mb, 6, none⟩ = some v6 := heap_cell hvb6.box 6
                  have hs6 := hvb6.keep.size
                  have hlM := heap_lt hvb6.box
                  have hvb7 := hvb6.alloc (.cells #[.int .i64 1] 3)
                  have h57 := h56.ri (ri_alloc w.heap.size w6 (.cells #[.int .i64 1] 3))
                  have h67 := h66.ri (ri_alloc w.heap.size w6 (.cells #[.int .i64 1] 3))
                  go_wp2_with (at_builtin; refine wpList_app1 (M := w.heap.size) (N := 4) rfl rfl h67 rfl (u := 1) (by simp) (by omega) (by simp <;> omega) ?_; intro v' w8 hv' hA8; obtain ⟨pd, nn, cap, e8, c8, d8, HE⟩ := app_q6 (p0 := p) hvb7 h57 hv' hA8 (by omega); clear hvb6 h56 h66 hvb7 h57 h67 hv' hA8; subst e8)
                  go_meet
                  case rel => exact HE.out
                · have c5 : w6.cell? ⟨Mb, 5, none⟩ = some v5 := heap_cell hvb6.box 5
                  have hs6 := hvb6.keep.size
                  have HE : Hid (QE B Mb R (p + 10000) 5 w w6) := ⟨_, _, _, _, _, _, _, hvb6.le (by omega), h56.mono (by omega), h66.mono (by omega)⟩
                  have h56' := h56
                  rcases h56' with rfl | ⟨g, n5, cap5, rfl, hn5, hc5, hg5, hPI⟩
                  · clear hvb6 h56 h66
                    go_wp2
                    go_meet
                    case rel => exact HE.out
                  · by_cases hz : 0 < n5
                    · have hI : (0 : Int) < (n5 : Int) := by omega
                      have hgl := hPI.lt
                      go_wp2_with fail
                      have hX : ∀ w1 w2, RI w.heap.size w1 w2 → (kIR w.heap.size 4 w1 (.slice (some ⟨g, 0, none⟩) n5 cap5) ∧ kIR w.heap.size 4 w1 v6) → (kIR w.heap.size 4 w2 (.slice (some ⟨g, 0, none⟩) n5 cap5) ∧ kIR w.heap.size 4 w2 v6) := fun _ _ hr h => ⟨h.1.ri hr, h.2.ri hr⟩
                      obtain ⟨pt, hpt⟩ : ∃ pt, pt = kIs (.pointer (some ⟨B, 0, none⟩)) := ⟨_, rfl⟩
                      refine wp_region_then (by kernel_rfl) (RR w6.heap.size w.heap.size)
                        (VC B Mb R (P + 40 + 40) #[.int .i64 id, .int .i64 kind, .int .i64 addr, .int .i64 many, .bool wrap, (.slice (some ⟨g, 0, none⟩) n5 cap5), v6] #[.int .i64 0, .int .i64 0, .int .i64 0, .int .i64 0, .bool false, .slice none 0 0, .slice none 0 0] 40 w (fun W => kIR w.heap.size 4 W (.slice (some ⟨g, 0, none⟩) n5 cap5) ∧ kIR w.heap.size 4 W v6) w6.heap.size)
                        (tab [(98, kIs (.pointer (some ⟨Mb, 5, none⟩))), (99, kIs (.slice (some ⟨g, 0, none⟩) n5 cap5)), (100, kRow w6.heap.size 2 (-1) 65536), (101, pt), (102, kInt 0 1), (103, kCell w6.heap.size (-1) 65536), (104, kInt (-1) 65536), (105, kIs (.pointer (some ⟨g, 0, none⟩)))])
                        8 _ [98, 99, 100, 101, 102, 103, 104, 105] rfl rfl (by kernel_rfl) (by kernel_rfl) rfl (by kernel_rfl) ?_ ?_ ?_ ?_
                      · refine tabR_stable ?_
                        intro x hx
                        simp [hpt] at hx
                        rcases hx with rfl | rfl | rfl | rfl | rfl | rfl | rfl | rfl
                        all_goals intro w1 w2 u hr hu
                        all_goals first | exact hu | exact stable_row _ _ _ _ _ _ _ hr.1 hu | exact stable_cell _ _ _ _ _ _ hr.1 hu | exact kIR.ri hu hr.2
                      · exact ⟨hvb6.drew, ⟨h56, h66⟩, Nat.le_refl _⟩
                      · refine ops_cons (gd rfl <| tx_pure rfl rfl (fun k W h => h.next) (RR.refl _ _) (fun i ρ W hat hW => ?_)) ?_
                        · have e2 := hat.out 5 (by kernel_rfl)
                          simp [Act.eval] at e2
                          simp only [execOp, e2]; go_simp
                        refine ops_cons (gd rfl <| tx_pure rfl rfl (fun k W h => h.next) (RR.refl _ _) (fun i ρ W hat hW => ?_)) ?_
                        · have e2 : ρ (.tmp 98) = _ := hat.dep 98 (by kernel_rfl)
                          have e1 : W.cell? ⟨Mb, 5, none⟩ = some (.slice (some ⟨g, 0, none⟩) n5 cap5) := heap_cell hW.1.box 5
                          simp only [execOp, e2]; go_simp
                        refine ops_cons (gd rfl <| vc_build hX rfl rfl (fun ρ W hat => ?_)) ?_
                        · have hcn := hat.con
                          exact ⟨[-1, 65536], rfl, by simp, by simp only [execOp]; go_simp⟩
                        refine ops_cons (gd rfl <| ty_move_out (.inl rfl) rfl (by kernel_rfl) hpt (fun k W h => h.next) (RR.refl _ _)) ?_
                        refine ops_cons (gd rfl <| vc_pick hX hs6 rfl rfl (by kernel_rfl) hpt rfl (by decide) (by decide) (by simp; omega)) ?_
                        refine ops_cons (gd rfl <| vc_index rfl rfl (by kernel_rfl) (by kernel_rfl) rfl rfl (by decide) (by decide) rfl) ?_
                        refine ops_cons (gd rfl <| vc_load rfl rfl (by kernel_rfl) rfl rfl) ?_
                        refine ops_cons (gd rfl <| tx_pure rfl rfl (fun k W h => h.next) (RR.refl _ _) (fun i ρ W hat hW => ?_)) ?_
                        · have e2 : ρ (.tmp 99) = _ := hat.dep 99 (by kernel_rfl)
                          have hcn := hat.con
                          simp only [execOp, e2]; go_simp
                        exact ops_nil
                      intro f W hW hf
                      have e105 : f 105 = .pointer (some ⟨g, 0, none⟩) := hf 105 (by simp)
                      obtain ⟨u, e104, _, _⟩ : kInt (-1) 65536 W (f 104) := hf 104 (by simp)
                      clear hf
                      have hPW : PI W g cap5 n5 := by
                        rcases hW.2.1.1 with h | ⟨g', n', c', e', _, _, _, hp⟩
                        · cases h
                        · cases e'; exact hp
                      have hA : AppI w.heap.size W (W.setCell ⟨g, 0, none⟩ (.int .i64 u)) := appI_set hPW hg5
                      have HE2 : Hid (QE B Mb R (p + 10000) 5 w (W.setCell ⟨g, 0, none⟩ (.int .i64 u))) := ⟨_, _, _, _, _, _, _, (hW.1.app (by decide) hA).le (by omega), (hW.2.1.1.ri ⟨hA.size, hA.ri⟩).mono (by omega), (hW.2.1.2.ri ⟨hA.size, hA.ri⟩).mono (by omega)⟩
                      obtain ⟨cur, k1, k2, k3, k4⟩ := hPW
                      obtain ⟨x0, hx0⟩ := k4 0 hz
                      have cc : W.cell? ⟨g, 0, none⟩ = some (.int .i64 x0) := (heap_cell k1 0).trans hx0
                      have dd : W.frozen? ⟨g, 0, none⟩ = false := heap_free k1 0
                      clear hW hA hvb6 h56 h66 hX HE hPI k1 k2 k3 k4 hx0 c5
                      simp only [fill, e105, e104]
                      go_simp
                      go_wp2
                      go_meet
                      case rel => exact HE2.out
                    · have hI : ¬ (0 : Int) < (n5 : Int) := by omega
                      clear hvb6 h56 h66 hPI
                      go_wp2
                      go_meet
                      case rel => exact HE.out
            case rest =>
              clear hvb5 h55 h65
              obtain ⟨id, kind, addr, many, wrap, v5, v6, hvb, h5, h6⟩ := hcut
              obtain ⟨pd, xs, cd, e5, _⟩ := h5.ints
              obtain ⟨pl, ys, cl, e6, _⟩ := h6.ints
              subst e5 e6
              obtain ⟨r0, r1, r2, r3, r4, r5, r6⟩ := req_res (a0 := .int .i64 id) (a1 := .int .i64 kind) (a2 := .int .i64 addr) (a3 := .int .i64 many) (a4 := .bool wrap) (a5 := .slice pd xs.length cd) (a6 := .slice pl ys.length cl) hvb
              have HP := Hid.intro (req_post (p0 := p) hvb (h5.mono (by omega)) (h6.mono (by omega)) (by omega))
              have c0 : wc.cell? ⟨Mb, 0, none⟩ = some (.int .i64 id) := heap_cell hvb.box 0
              have c1 : wc.cell? ⟨Mb, 1, none⟩ = some (.int .i64 kind) := heap_cell hvb.box 1
              have c2 : wc.cell? ⟨Mb, 2, none⟩ = some (.int .i64 addr) := heap_cell hvb.box 2
              have c3 : wc.cell? ⟨Mb, 3, none⟩ = some (.int .i64 many) := heap_cell hvb.box 3
              have c4 : wc.cell? ⟨Mb, 4, none⟩ = some (.bool wrap) := heap_cell hvb.box 4
              have c5 : wc.cell? ⟨Mb, 5, none⟩ = some (.slice pd xs.length cd) := heap_cell hvb.box 5
              have c6 : wc.cell? ⟨Mb, 6, none⟩ = some (.slice pl ys.length cl) := heap_cell hvb.box 6
              have q0 : wc.cell? ⟨R, 0, none⟩ = some (.int .i64 0) := heap_cell hvb.res 0
              have g0 : wc.frozen? ⟨R, 0, none⟩ = false := heap_free hvb.res 0
              have q1 : wc.cell? ⟨R, 1, none⟩ = some (.int .i64 0) := heap_cell hvb.res 1
              have g1 : wc.frozen? ⟨R, 1, none⟩ = false := heap_free hvb.res 1
              have q2 : wc.cell? ⟨R, 2, none⟩ = some (.int .i64 0) := heap_cell hvb.res 2
              have g2 : wc.frozen? ⟨R, 2, none⟩ = false := heap_free hvb.res 2
              have q3 : wc.cell? ⟨R, 3, none⟩ = some (.int .i64 0) := heap_cell hvb.res 3
              have g3 : wc.frozen? ⟨R, 3, none⟩ = false := heap_free hvb.res 3
              have q4 : wc.cell? ⟨R, 4, none⟩ = some (.bool false) := heap_cell hvb.res 4
              have g4 : wc.frozen? ⟨R, 4, none⟩ = false := heap_free hvb.res 4
              have q5 : wc.cell? ⟨R, 5, none⟩ = some (.slice none 0 0) := heap_cell hvb.res 5
              have g5 : wc.frozen? ⟨R, 5, none⟩ = false := heap_free hvb.res 5
              have q6 : wc.cell? ⟨R, 6, none⟩ = some (.slice none 0 0) := heap_cell hvb.res 6
              have g6 : wc.frozen? ⟨R, 6, none⟩ = false := heap_free hvb.res 6
              clear hvb h5 h6
              go_wp2
              refine bodyPost_ret (v := .agg #[.int .i64 id, .int .i64 kind, .int .i64 addr, .int .i64 many, .bool wrap, (.slice pd xs.length cd), (.slice pl ys.length cl)]) (by simp [results, Try.results51, go_sem, r0, r1, r2, r3, r4, r5, r6]) rfl ⟨_, rfl, HP.out⟩

end Go.Proofs.Ytlifkfemdknndaa
