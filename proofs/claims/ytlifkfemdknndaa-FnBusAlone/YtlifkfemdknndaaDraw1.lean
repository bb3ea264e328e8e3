/-
  spec's draws of chapter 1: a reader of a code; one in so many; an address.
-/
import Derived.Test.YtlifkfemdknndaaProg
import Derived.Test.YtlifkfemdknndaaPick
import Derived.Test.YtlifkfemdknndaaOpsXM
namespace Go.Proofs.Ytlifkfemdknndaa
open Go.RowKit
set_option linter.unusedSimpArgs false
set_option linter.unusedVariables false

theorem Rd.new {w : World} {a : Option Addr} {len cap : Nat} (h1 : len ≤ 2000) (h2 : len ≤ cap) (h3 : Bytes w w.heap.size a len) (t : TypeId) :
    Rd (w.alloc (.cells #[.slice a len cap, .int .i64 0] t)) w.heap.size 0 :=
  ⟨a, len, cap, by simp, by simp, by simp, by simp, h1, h2, h3.of (fun k hk => Below.heap_alloc _ _ _ hk)⟩

set_option maxHeartbeats 400000 in
theorem open_any (a : Option Addr) (len cap : Nat) (w : World) (hc : len ≤ cap) (hm : cap ≤ 9223372036854775807) (h : Bytes w w.heap.size a len) :
    Calls Try.prog 28 #[.slice a len cap] w fun e w' => e = .returned (.pointer (some ⟨w.heap.size, 0, none⟩)) ∧ Rd w' w.heap.size 0 ∧ Below w.heap.size w w' := by
  have hbl : ∀ o, Below w.heap.size w (w.alloc o) := fun o => (Below.refl _ w).alloc (Nat.le_refl _) o
  by_cases hl : 2000 < len
  · have hb : Bytes w w.heap.size a 2000 := by
      rcases h with h | ⟨b, off, g1, g2, g3⟩
      · omega
      · exact .inr ⟨b, off, g1, g2, fun i hi => g3 i (by omega)⟩
    have hI : (2000 : Int) < (len : Int) := by omega
    have hI2 : (2000 : Int) ≤ (cap : Int) := by omega
    rcases h with h | ⟨b, off, rfl, g2, g3⟩
    · omega
    · have hr := Rd.new (w := w) (len := 2000) (cap := cap) (by omega) (by omega) hb 95
      clear g3
      go_enter Try.func28, Try.ntmps28
      go_wp2
      go_ret
      exact ⟨rfl, hr, hbl _⟩
  · have hI : ¬ (2000 : Int) < (len : Int) := by omega
    have hr := Rd.new (w := w) (len := len) (cap := cap) (by omega) hc h 95
    clear h
    go_enter Try.func28, Try.ntmps28
    go_wp2
    go_ret
    exact ⟨rfl, hr, hbl _⟩

theorem odd_any (B p : Nat) (n : Int) (w : World) (h : Rd w B p) (hp : p ≤ 1000000) (hn : 1 ≤ n) (hn' : n ≤ 8999) :
    Calls Try.prog 65 #[.pointer (some ⟨B, 0, none⟩), .int .i64 n] w fun e w' => ∃ b : Bool, e = .returned (.bool b) ∧ Rd w' B (p + 1) ∧ Keep B w w' := by
  go_enter Try.func65, Try.ntmps65
  go_wp2_with fail
  refine (pick_any B p n w h hp hn (by omega)).mono ?_
  rintro e w' ⟨k, hk0, hk1, rfl, hr, hK⟩
  go_wp2
  go_ret
  exact ⟨_, rfl, hr, hK⟩

/-- an index into a literal of ints that lies in block blk -/
theorem lit_at {w' : World} {blk : Nat} {cs : Array Value} (hblk : ∀ i, w'.cell? ⟨blk, i, none⟩ = cs[i]?) (ns : List Int) (hcs : cs = (ns.map (Value.int .i64)).toArray)
    (lo hi : Int) (hall : ∀ n ∈ ns, lo ≤ n ∧ n ≤ hi) (k : Int) (hk0 : 0 ≤ k) (hk : k < ns.length) :
    ∃ v, lo ≤ v ∧ v ≤ hi ∧ w'.cell? ⟨blk, k.toNat, none⟩ = some (.int .i64 v) := by
  have hl : k.toNat < ns.length := by omega
  refine ⟨ns[k.toNat], (hall _ (List.getElem_mem hl)).1, (hall _ (List.getElem_mem hl)).2, ?_⟩
  rw [hblk, hcs]
  simp [hl]

/-- a pick's outcome -/
theorem pick_at {B p : Nat} {w : World} (h : Rd w B p) (hp : p ≤ 980000) (n : Int) (hn : 1 ≤ n) (hn' : n ≤ 1000) :
    Calls Try.prog 37 #[.pointer (some ⟨B, 0, none⟩), .int .i64 n] w fun e w' => ∃ k : Int, 0 ≤ k ∧ k < n ∧ e = .returned (.int .i64 k) ∧ Rd w' B (p + 1) ∧ Keep B w w' :=
  pick_any B p n w h (by omega) hn (by omega)

set_option maxHeartbeats 1000000 in
theorem addr_any (B p : Nat) (w : World) (h : Rd w B p) (hp : p ≤ 970000) :
    Calls Try.prog 79 #[.pointer (some ⟨B, 0, none⟩)] w fun e w' => ∃ k : Int, 0 ≤ k ∧ k ≤ 63 ∧ e = .returned (.int .i64 k) ∧ Rd w' B (p + 7) ∧ Keep B w w' := by
  go_enter Try.func79, Try.ntmps79
  go_wp2_with fail
  refine (pick_at h (by omega) 4 (by omega) (by omega)).mono ?_
  rintro e w1 ⟨k1, ha1, hb1, rfl, hr1, hK1⟩
  go_wp2_with fail
  refine (pick_at hr1 (by omega) 4 (by omega) (by omega)).mono ?_
  rintro e w2 ⟨k2, ha2, hb2, rfl, hr2, hK2⟩
  go_wp2_with fail
  refine (pick_at hr2 (by omega) 4 (by omega) (by omega)).mono ?_
  rintro e w3 ⟨k3, ha3, hb3, rfl, hr3, hK3⟩
  go_wp2_with fail
  refine (pick_at hr3 (by omega) 64 (by omega) (by omega)).mono ?_
  rintro e w4 ⟨k4, ha4, hb4, rfl, hr4, hK4⟩
  go_wp2_with fail
  refine (pick_at hr4 (by omega) 5 (by omega) (by omega)).mono ?_
  rintro e w5 ⟨k5, ha5, hb5, rfl, hr5, hK5⟩
  go_wp2_with fail
  refine (pick_at hr5 (by omega) 4 (by omega) (by omega)).mono ?_
  rintro e w6 ⟨k6, ha6, hb6, rfl, hr6, hK6⟩
  go_wp2_with fail
  refine (pick_at ((hr6.alloc _).alloc _) (by omega) 8 (by omega) (by omega)).mono ?_
  rintro e w7 ⟨k7, ha7, hb7, rfl, hr7, hK7⟩
  have hB := hr6.lt
  have c1 : ∀ i, w7.cell? ⟨w6.heap.size + 1, i, none⟩ = _ := fun i => (hK7.cell (p := ⟨w6.heap.size + 1, i, none⟩) (by simp) (by simp; omega)).trans (World.cell?_alloc_at _ _ _ _ (by simp))
  have c2 : ∀ i, w7.cell? ⟨w6.heap.size, i, none⟩ = _ := fun i => (hK7.cell (p := ⟨w6.heap.size, i, none⟩) (by simp; omega) (by simp; omega)).trans ((World.cell?_alloc_past _ _ _ (by simp)).trans (World.cell?_alloc_at _ _ _ _ rfl))
  obtain ⟨v, hv0, hv1, hv⟩ := lit_at c1 [0, 0, 1, 1, 2, 3, 4, 5] rfl 0 5 (by simp) k7 ha7 (by simpa using hb7)
  obtain ⟨u, hu0, hu1, hu⟩ := lit_at c2 [k1, 16 + k2, 32 + k3, k4, 13 + k5, 60 + k6] rfl 0 63 (by intro n hn; simp at hn; omega) v hv0 (by simp; omega)
  clear c1 c2
  have hKK : Keep B w w7 := (((((hK1.trans hK2).trans hK3).trans hK4).trans hK5).trans hK6).trans (((Keep.refl B w6).alloc _).alloc _ |>.trans hK7)
  go_wp2
  go_ret
  exact ⟨u, hu0, hu1, rfl, hr7, hKK⟩


theorem pick_cls {B p0 : Nat} {w0 w : World} {k : Nat} (h : Cls B p0 w0 k w) (hk : p0 + 40 * k ≤ 960000) (n : Int) (hn : 1 ≤ n) (hn' : n ≤ 1000) :
    Calls Try.prog 37 #[.pointer (some ⟨B, 0, none⟩), .int .i64 n] w fun e w' => ∃ v, e = .returned v ∧ Cls B p0 w0 (k + 1) w' ∧ Keep B w w' ∧ kInt 0 (n - 1) w' v := by
  obtain ⟨p, h1, h2, h3⟩ := h
  refine (pick_at h2 (by omega) n hn hn').mono ?_
  rintro e w' ⟨x, a1, a2, rfl, hr, hK⟩
  exact ⟨_, rfl, ⟨p + 1, by omega, hr, h3.trans hK⟩, hK, x, rfl, a1, by omega⟩
theorem addr_cls {B p0 : Nat} {w0 w : World} {k : Nat} (h : Cls B p0 w0 k w) (hk : p0 + 40 * k ≤ 960000) :
    Calls Try.prog 79 #[.pointer (some ⟨B, 0, none⟩)] w fun e w' => ∃ v, e = .returned v ∧ Cls B p0 w0 (k + 1) w' ∧ Keep B w w' ∧ kInt 0 63 w' v := by
  obtain ⟨p, h1, h2, h3⟩ := h
  refine (addr_any B p w h2 (by omega)).mono ?_
  rintro e w' ⟨x, a1, a2, rfl, hr, hK⟩
  exact ⟨_, rfl, ⟨p + 7, by omega, hr, h3.trans hK⟩, hK, x, rfl, a1, a2⟩

section
variable {ops : Array Oper} {a0 : Act} {B p0 : Nat} {w0 : World} {T : Nat → World → Value → Prop} {o : Oper} {d t : Nat}

theorem ty_pick {n : Int} (ho : o.op = .call { callee := .value (.func 37), args := #[.tmp t, .const (.int .i64 n)], argTypes := #[57, 3] }) (hdst : o.dst = some d) (hdep : depB ops o t = true)
    (hkt : T t = kIs (.pointer (some ⟨B, 0, none⟩))) (hk : T d = kInt 0 (n - 1)) (hn : 1 ≤ n) (hn' : n ≤ 1000) (hz : p0 + 40 * ops.size ≤ 960000) (hB : B < w0.heap.size) : OpTy Try.prog ops a0 (Up w0.heap.size) (Cls B p0 w0) T o := by
  intro k ρ w hc hf hx hd hkk hCk
  have hv := dep_of hdep hd
  rw [hkt] at hv
  have hv : ρ (.tmp t) = .pointer (some ⟨B, 0, none⟩) := hv
  have e : (execOp ρ o).run Try.prog w = .ok (.enter 37 #[.pointer (some ⟨B, 0, none⟩), .int .i64 n]) w := by
    simp only [execOp, ho]
    go_simp
  rw [e]
  refine (pick_cls hCk (by omega) n hn hn').mono ?_
  rintro e w' ⟨v, rfl, h1, h2, h3⟩
  refine ⟨v, rfl, h1, Up.of_keep h2 hB, fun d' hd' => ?_⟩
  rw [hdst] at hd'; cases hd'
  rw [hk]; exact h3
theorem ty_addr (ho : o.op = .call { callee := .value (.func 79), args := #[.tmp t], argTypes := #[57] }) (hdst : o.dst = some d) (hdep : depB ops o t = true)
    (hkt : T t = kIs (.pointer (some ⟨B, 0, none⟩))) (hk : T d = kInt 0 63) (hz : p0 + 40 * ops.size ≤ 960000) (hB : B < w0.heap.size) : OpTy Try.prog ops a0 (Up w0.heap.size) (Cls B p0 w0) T o := by
  intro k ρ w hc hf hx hd hkk hCk
  have hv := dep_of hdep hd
  rw [hkt] at hv
  have hv : ρ (.tmp t) = .pointer (some ⟨B, 0, none⟩) := hv
  have e : (execOp ρ o).run Try.prog w = .ok (.enter 79 #[.pointer (some ⟨B, 0, none⟩)]) w := by
    simp only [execOp, ho]
    go_simp
  rw [e]
  refine (addr_cls hCk (by omega)).mono ?_
  rintro e w' ⟨v, rfl, h1, h2, h3⟩
  refine ⟨v, rfl, h1, Up.of_keep h2 hB, fun d' hd' => ?_⟩
  rw [hdst] at hd'; cases hd'
  rw [hk]; exact h3
theorem Cls.le {B p0 : Nat} {w0 w : World} {k : Nat} (h : Cls B p0 w0 k w) : w0.heap.size ≤ w.heap.size := by obtain ⟨_, _, _, h⟩ := h; exact h.size
end

end Go.Proofs.Ytlifkfemdknndaa
